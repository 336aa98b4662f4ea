import PyProof.Rows.All
import Wide.All
import OpenK.AllK
import Wide.FinOn
import Lean
import PyProof.EqAt
import PyProof.EqKinds
import PyProof.TupleCall
import PySem.Challenge.RW_sideloom_k47_calls_of_trees
set_option Elab.async false
set_option linter.all false
set_option maxRecDepth 100000
namespace L2
open PySem PySem.Spec PyProof.Rows
abbrev Key := Sum Int Str
def keyIs : Key → Value → Bool
  | .inl k, v => Value.isInt k v
  | .inr x, v => Value.isStrOf x v
def keyH (w : World) : Key → Int
  | .inl k => hashInt k
  | .inr x => hashStr w x
theorem keyIs_shape : ∀ {k : Key} {v : Value}, keyIs k v = true → (∃ i t, k = Sum.inl i ∧ v = Value.int i t) ∨ (∃ x t, k = Sum.inr x ∧ v = Value.str x t)
  | .inl i, v, h => by
    obtain ⟨t, e⟩ := Value.isInt_shape (k := i) (v := v) h
    exact .inl ⟨i, t, rfl, e⟩
  | .inr x, v, h => by
    obtain ⟨t, e⟩ := Value.isStrOf_shape (x := x) (v := v) h
    exact .inr ⟨x, t, rfl, e⟩
theorem keyIs_int (i : Int) (t : Tok) : keyIs (.inl i) (.int i t) = true := by simp [keyIs, Value.isInt]
theorem keyIs_str (x : Str) (t : Tok) : keyIs (.inr x) (.str x t) = true := by simp [keyIs, Value.isStrOf]
theorem key_ll (a b : Int) : decide ((Sum.inl a : Key) = Sum.inl b) = (a == b) := by
  by_cases e : a = b
  · subst e; simp
  · have h : ¬ (Sum.inl a : Key) = Sum.inl b := fun q => e (Sum.inl.inj q)
    rw [decide_eq_false h]
    exact (beq_eq_false_iff_ne.mpr e).symm
theorem key_rr (a b : Str) : decide ((Sum.inr a : Key) = Sum.inr b) = decide (a = b) := by
  by_cases e : a = b
  · subst e; simp
  · have h : ¬ (Sum.inr a : Key) = Sum.inr b := fun q => e (Sum.inr.inj q)
    rw [decide_eq_false h, decide_eq_false e]
theorem key_lr (a : Int) (b : Str) : decide ((Sum.inl a : Key) = Sum.inr b) = false := decide_eq_false (fun q => nomatch q)
theorem key_rl (a : Str) (b : Int) : decide ((Sum.inr a : Key) = Sum.inl b) = false := decide_eq_false (fun q => nomatch q)
def mixKind (prog : Program) (w : World) : PySem.KeyKind prog w Key where
  is := keyIs
  hash := keyH w
  inj := fun v a b ha hb => by
    rcases keyIs_shape ha with ⟨i, t, rfl, rfl⟩ | ⟨x, t, rfl, rfl⟩
    · rcases keyIs_shape hb with ⟨j, u, rfl, e⟩ | ⟨y, u, rfl, e⟩
      · injection e with e1 _; rw [e1]
      · exact nomatch e
    · rcases keyIs_shape hb with ⟨j, u, rfl, e⟩ | ⟨y, u, rfl, e⟩
      · exact nomatch e
      · injection e with e1 _; rw [e1]
  byValue := fun k v h => by
    rcases keyIs_shape h with ⟨i, t, rfl, rfl⟩ | ⟨x, t, rfl, rfl⟩ <;> rfl
  pyHash := fun hv h => by
    rcases keyIs_shape hv with ⟨i, t, rfl, rfl⟩ | ⟨x, t, rfl, rfl⟩
    · exact wpAny_pyHash_int h
    · exact wpAny_pyHash_str h
  eqBool := fun hu hv h => by
    rcases keyIs_shape hu with ⟨i, t, rfl, rfl⟩ | ⟨x, t, rfl, rfl⟩
    · rcases keyIs_shape hv with ⟨j, u, rfl, rfl⟩ | ⟨y, u, rfl, rfl⟩
      · rw [key_ll] at h; exact wpAny_eqBool_int h
      · rw [key_lr] at h; exact SeqAt.EqAt.int_str i t y u _ _ _ _ h
    · rcases keyIs_shape hv with ⟨j, u, rfl, rfl⟩ | ⟨y, u, rfl, rfl⟩
      · rw [key_rl] at h; exact SeqAt.EqAt.str_int x t j u _ _ _ _ h
      · rw [key_rr] at h; exact wpAny_eqBool_str h
  «strs» := fun k x t v h => by
    rcases keyIs_shape h with ⟨i, u, rfl, e⟩ | ⟨y, u, rfl, e⟩
    · exact nomatch e
    · injection e with e1 _
      subst e1
      cases v <;> rfl
theorem mixKind_int (prog : Program) (w : World) (i : Int) (t : Tok) : (mixKind prog w).is (.inl i) (.int i t) = true := keyIs_int i t
theorem mixKind_str (prog : Program) (w : World) (x : Str) (t : Tok) : (mixKind prog w).is (.inr x) (.str x t) = true := keyIs_str x t
end L2
namespace L2
open PySem PySem.Spec PyProof.Rows
inductive V where
  | non | bl (b : Bool) | int (i : Int) | str (x : Str) | byt (b : Array UInt8) | flt (b : UInt64) | ref (a : Addr) | ty (n : String)
  deriving DecidableEq
def RelV : V → Value → Prop
  | .non, u => u = Value.none
  | .bl b, u => u = Value.bool b
  | .int i, u => ∃ t, u = Value.int i t
  | .str x, u => ∃ t, u = Value.str x t
  | .byt b, u => ∃ t, u = Value.bytes b t
  | .flt b, u => ∃ t, u = Value.float b t
  | .ref a, u => u = Value.ref a
  | .ty n, u => u = Value.type n
abbrev Vals : List V → List Value → Prop := Paired RelV
theorem Vals.length {xs : List V} {us : List Value} (r : Vals xs us) : xs.length = us.length := Paired.length r
theorem Vals.get : ∀ {xs : List V} {us : List Value} {i : Nat} {x : V}, Vals xs us → xs[i]? = some x → ∃ u, us[i]? = some u ∧ RelV x u
  | _, _, _, _, .nil, e => by simp at e
  | _, _, 0, _, .cons r _, e => by simp at e; subst e; exact ⟨_, rfl, r⟩
  | _, _, i + 1, x, .cons _ t, e => by
    obtain ⟨u, h1, h2⟩ := Vals.get (i := i) (x := x) t (by simpa using e)
    exact ⟨u, by simpa using h1, h2⟩
theorem Vals.set {x : V} {u : Value} (r : RelV x u) : ∀ {xs : List V} {us : List Value} (i : Nat), Vals xs us → Vals (xs.set i x) (us.set i u)
  | _, _, _, .nil => .nil
  | _, _, 0, .cons _ t => .cons r t
  | _, _, i + 1, .cons q t => .cons q (Vals.set r i t)
theorem Vals.append : ∀ {xs ys : List V} {us ws : List Value}, Vals xs us → Vals ys ws → Vals (xs ++ ys) (us ++ ws)
  | _, _, _, _, .nil, s => s
  | _, _, _, _, .cons r t, s => .cons r (Vals.append t s)
theorem Vals.take : ∀ {xs : List V} {us : List Value} (n : Nat), Vals xs us → Vals (xs.take n) (us.take n)
  | _, _, 0, _ => .nil
  | _, _, _ + 1, .nil => .nil
  | _, _, n + 1, .cons r t => .cons r (Vals.take n t)
theorem Vals.drop : ∀ {xs : List V} {us : List Value} (n : Nat), Vals xs us → Vals (xs.drop n) (us.drop n)
  | _, _, 0, r => r
  | _, _, _ + 1, .nil => .nil
  | _, _, n + 1, .cons _ t => Vals.drop n t
def RelO : Option V → Option Value → Prop
  | some v, some u => RelV v u
  | none, none => True
  | _, _ => False
def KV {κ : Type} : List (κ × V) → List (κ × Value) → Prop := Paired fun (p : κ × V) (q : κ × Value) => p.1 = q.1 ∧ RelV p.2 q.2
def kV : Key → V
  | .inl i => .int i
  | .inr x => .str x
inductive HO where
  | lst (xs : List V)
  | tup (xs : List V)
  | dK (kvs : List (Key × V)) | dT (kvs : List (List Key × V))
  | set (S : Int → Bool) (n : Nat)
  | ins (C dx : Addr) (fs : List (Str × V))
  | own (x : Addr)
  | xd (fs : List (Str × V))
  | met (f x : Addr)
  | rng (lo hi : Int)
  | frz (o : Obj) (u : HO)
  | tbl (ps : Array Value)
  | ext (φ : Heap → Prop)
abbrev Hp := Addr → Option HO
def upd (H : Hp) (a : Addr) (o : HO) : Hp := fun b => if b = a then some o else H b
theorem upd_same {H : Hp} {a : Addr} {o : HO} : upd H a o a = some o := by unfold upd; rw [if_pos rfl]
theorem upd_ne {H : Hp} {a b : Addr} {o : HO} (h : b ≠ a) : upd H a o b = H b := by unfold upd; rw [if_neg h]
theorem ne_of {H : Hp} {a b : Addr} {o u : HO} (h : H a = some o) (h' : H b = some u) (d : o ≠ u) : a ≠ b := by
  intro e; subst e; rw [h] at h'; exact d (Option.some.inj h')
theorem ne_of_none {H : Hp} {a b : Addr} {o : HO} (h : H a = some o) (h' : H b = none) : a ≠ b := by
  intro e; subst e; rw [h] at h'; cases h'
section
variable (P : Program) (w : World)
def ObjOk (H : Hp) (h : Heap) (a : Addr) : HO → Prop
  | .lst xs => xs.length ≤ sizeLine ∧ ∃ (its : List Value) (n : Nat), Vals xs its ∧ h.get? a = some { cls := .type "list", data := .seq its.toArray n }
  | .tup xs => xs.length ≤ sizeLine ∧ ∃ its : List Value, Vals xs its ∧ IsTup h a its.toArray
  | .dK kvs => kvs.length ≤ sizeLine ∧ (a == sysModules) = false ∧ ∃ vs, KV kvs vs ∧ h.DictOf (mixKind P w) a vs
  | .dT kvs => kvs.length ≤ sizeLine ∧ (a == sysModules) = false ∧ ∃ xs : List (List Key × Addr × Value),
      Paired (fun (p : List Key × V) (q : List Key × Addr × Value) => p.1 = q.1 ∧ H q.2.1 = some (.tup (p.1.map kV)) ∧ RelV p.2 q.2.2) kvs xs ∧
      ∃ o es ep, h.get? a = some o ∧ o.ExactDict ∧ o.data = .dict es ep ∧ es.toList = xs.map (entryOfKey (tupleKind (mixKind P w))) ∧ (xs.map (·.1)).Nodup
  | .set S n => h.SetOf (intKind P w) a S n
  | .ins C dx fs => H dx = some (.own a) ∧ fs.length ≤ 1000 ∧ dx ≠ a ∧ h.get? a = some (PySem.W.instObj C dx) ∧
      ∃ mA, h.Ns1 dx mA ∧ (∀ f, RelO (fs.lookup f) (mA f)) ∧ PySem.Within mA (fs.map (·.1))
  | .own _ => ∃ o, h.get? a = some o
  | .xd fs => ∃ mA, h.Ns1 a mA ∧ ∀ f, RelO (fs.lookup f) (mA f)
  | .rng lo hi => ∃ t u v, h.get? a = some { cls := .type "range", data := .fields #[.int lo t, .int hi u, .int 1 v] }
  | .frz o u => h.get? a = some o ∧ ObjOk H h a u
  | .tbl ps => h.get? a = some { cls := .none, data := .fields ps }
  | .met f x => h.get? a = some (PySem.W.methodObj (.ref f) (.ref x))
  | .ext φ => φ h ∧ (∃ o, h.get? a = some o) ∧ ∀ h1 h2 : Heap, φ h1 → (∀ o, h1.get? a = some o → h2.get? a = some o) → φ h2
def HOk (H : Hp) (h : Heap) : Prop := ∀ a o, H a = some o → ObjOk P w H h a o
end
section
variable {P : Program} {w : World} {H H' : Hp} {h h' : Heap} {a : Addr} {o : HO}
theorem ObjOk.lt (x : ObjOk P w H h a o) : a < h.objs.size := by
  cases o with
  | lst xs => obtain ⟨_, _, _, _, e⟩ := x; exact Heap.lt_size e
  | tup xs => obtain ⟨_, _, _, p⟩ := x; exact p.lt
  | dK kvs => obtain ⟨_, _, _, _, o, _, _, e, _⟩ := x; exact Heap.lt_size e
  | dT kvs => obtain ⟨_, _, _, _, o, _, _, e, _⟩ := x; exact Heap.lt_size e
  | set S n => obtain ⟨o, _, _, _, e, _⟩ := x; exact Heap.lt_size e
  | ins C dx fs => obtain ⟨_, _, _, e, _⟩ := x; exact Heap.lt_size e
  | own y => obtain ⟨_, e⟩ := x; exact Heap.lt_size e
  | xd fs => obtain ⟨_, ⟨_, _, _, e, _⟩, _⟩ := x; exact Heap.lt_size e
  | rng lo hi => obtain ⟨_, _, _, e⟩ := x; exact Heap.lt_size e
  | frz ob u => obtain ⟨e, _⟩ := x; exact Heap.lt_size e
  | tbl ps => exact Heap.lt_size (show h.get? a = some _ from x)
  | met f y => exact Heap.lt_size (show h.get? a = some _ from x)
  | ext φ => obtain ⟨_, ⟨_, e⟩, _⟩ := x; exact Heap.lt_size e
theorem Paired.mapP {α β : Type} {F G : α → β → Prop} : ∀ {l₁ : List α} {l₂ : List β}, Paired F l₁ l₂ → (∀ a b, F a b → G a b) → Paired G l₁ l₂
  | _, _, .nil, _ => .nil
  | _, _, .cons r t, f => .cons (f _ _ r) (Paired.mapP t f)
theorem ObjOk.stay (x : ObjOk P w H h a o) (k : ∀ b u, (b = a ∨ H b = some (.own a)) → h.get? b = some u → h'.get? b = some u)
    (ho : ∀ b, H b = some (.own a) → H' b = some (.own a)) (ht : ∀ b xs, H b = some (.tup xs) → H' b = some (.tup xs)) : ObjOk P w H' h' a o := by
  induction o with
  | lst xs => obtain ⟨z, its, n, r, e⟩ := x; exact ⟨z, its, n, r, k _ _ (.inl rfl) e⟩
  | tup xs => obtain ⟨z, its, r, ob, e, c⟩ := x; exact ⟨z, its, r, ob, k _ _ (.inl rfl) e, c⟩
  | dK kvs => obtain ⟨z, y, vs, r, ob, es, ep, e, c⟩ := x; exact ⟨z, y, vs, r, ob, es, ep, k _ _ (.inl rfl) e, c⟩
  | dT kvs =>
    obtain ⟨z, y, xs, r, ob, es, ep, e, c⟩ := x
    exact ⟨z, y, xs, Paired.mapP r fun p q z => ⟨z.1, ht _ _ z.2.1, z.2.2⟩, ob, es, ep, k _ _ (.inl rfl) e, c⟩
  | set S n => obtain ⟨ob, es, ep, t, e, c⟩ := x; exact ⟨ob, es, ep, t, k _ _ (.inl rfl) e, c⟩
  | ins C dx fs =>
    obtain ⟨d, z, ne, e, mA, ⟨od, es, ep, e2, c⟩, r⟩ := x
    exact ⟨ho _ d, z, ne, k _ _ (.inl rfl) e, mA, ⟨od, es, ep, k _ _ (.inr d) e2, c⟩, r⟩
  | own y => obtain ⟨ob, e⟩ := x; exact ⟨ob, k _ _ (.inl rfl) e⟩
  | xd fs => obtain ⟨mA, ⟨od, es, ep, e, c⟩, r⟩ := x; exact ⟨mA, ⟨od, es, ep, k _ _ (.inl rfl) e, c⟩, r⟩
  | rng lo hi => obtain ⟨t, u, v, e⟩ := x; exact ⟨t, u, v, k _ _ (.inl rfl) e⟩
  | frz ob u ih => obtain ⟨e, q⟩ := x; exact ⟨k _ _ (.inl rfl) e, ih q⟩
  | tbl ps =>
    have e : h.get? a = some { cls := .none, data := .fields ps } := x
    show h'.get? a = some { cls := .none, data := .fields ps }
    exact k a _ (.inl rfl) e
  | met f y =>
    have e : h.get? a = some (PySem.W.methodObj (.ref f) (.ref y)) := x
    show h'.get? a = some (PySem.W.methodObj (.ref f) (.ref y))
    exact k a _ (.inl rfl) e
  | ext φ => obtain ⟨p, ⟨o, e⟩, st⟩ := x; exact ⟨st _ _ p fun o q => k _ _ (.inl rfl) q, ⟨o, k _ _ (.inl rfl) e⟩, st⟩
theorem HOk.lt (x : HOk P w H h) (e : H a = some o) : a < h.objs.size := (x a o e).lt
theorem HOk.fresh (x : HOk P w H h) (e : h.objs.size ≤ a) : H a = none := by
  cases q : H a with
  | none => rfl
  | some u => exact absurd (Nat.lt_of_lt_of_le (x.lt q) e) (Nat.lt_irrefl _)
theorem HOk.kept (x : HOk P w H h) (k : ∀ b u, h.get? b = some u → h'.get? b = some u) : HOk P w H h' := fun a o e =>
  (x a o e).stay (fun b u _ q => k b u q) (fun _ q => q) fun _ _ q => q
theorem HOk.laid (x : HOk P w H h) (k : ∀ b u, h.get? b = some u → h'.get? b = some u) (hp : h.objs.size ≤ a) (new : ObjOk P w (upd H a o) h' a o) : HOk P w (upd H a o) h' := fun b u e => by
  have hn := x.fresh hp
  by_cases hb : b = a
  · subst hb; rw [upd_same] at e; cases e; exact new
  · rw [upd_ne hb] at e
    exact (x b u e).stay (fun c v _ q => k c v q) (fun c q => by rw [upd_ne (ne_of_none q hn)]; exact q) fun c xs q => by rw [upd_ne (ne_of_none q hn)]; exact q
end
def Rd (H : Hp) (a : Addr) (u : HO) : Prop := H a = some u ∨ ∃ o, H a = some (.frz o u)
theorem Rd.of {H : Hp} {a : Addr} {u : HO} (h : H a = some u) : Rd H a u := .inl h
theorem Rd.ok {P : Program} {w : World} {H : Hp} {h : Heap} {a : Addr} {u : HO} (r : Rd H a u) (x : HOk P w H h) : ObjOk P w H h a u := by
  rcases r with r | ⟨o, r⟩
  · exact x a u r
  · obtain ⟨_, q⟩ := x a _ r
    exact q
def Mut : Option HO → Prop
  | some (.lst _) => True
  | some (.dK _) => True
  | some (.dT _) => True
  | some (.set _ _) => True
  | some (.ins _ _ _) => True
  | some (.ext _) => True
  | _ => False
section
variable {P : Program} {w : World} {H : Hp} {h h' : Heap} {x e : Addr} {o' : HO}
theorem HOk.write (ok : HOk P w H h) (mu : Mut (H x)) (he : e = x ∨ H e = some (.own x)) (k : ∀ b u, b ≠ e → h.get? b = some u → h'.get? b = some u) (heo : ∃ u, h'.get? e = some u)
    (new : ObjOk P w (upd H x o') h' x o') : HOk P w (upd H x o') h' := fun b u q => by
  have nown : ∀ c y, H c = some (.own y) → c ≠ x := fun c y r z => by subst z; rw [r] at mu; exact mu
  have ntup : ∀ c xs, H c = some (.tup xs) → c ≠ x := fun c xs r z => by subst z; rw [r] at mu; exact mu
  by_cases hb : b = x
  · subst hb; rw [upd_same] at q; cases q; exact new
  · rw [upd_ne hb] at q
    by_cases hbe : b = e
    · have q' : H b = some (.own x) := by
        rcases he with z | z
        · exact absurd (hbe.trans z) hb
        · rw [hbe]; exact z
      rw [q] at q'; cases q'
      obtain ⟨v, hv⟩ := heo
      exact ⟨v, by rw [hbe]; exact hv⟩
    · refine (ok b u q).stay (fun c v hc r => k c v ?_ r) (fun c r => by rw [upd_ne (nown c b r)]; exact r) fun c xs r => by rw [upd_ne (ntup c xs r)]; exact r
      rcases hc with rfl | hc
      · exact hbe
      · rintro rfl
        rcases he with z | z
        · exact nown c b hc z
        · rw [hc] at z; cases z; exact hb rfl
end
structure Un (fs ex : List Addr) (H H' : Hp) (h h' : Heap) : Prop where
  keep : ∀ b o, h.get? b = some o → H b = none → b ∉ fs → b ∉ ex → h'.get? b = some o
  slot : ∀ b o, h.get? b = some o → H b = none → b ∈ fs → b ∉ ex → ∃ sl, h'.get? b = some { o with slots := sl }
  free : ∀ b o, h.get? b = some o → H b = none → b ∉ ex → H' b = none
  there : ∀ b o, h.get? b = some o → b ∉ ex → ∃ o', h'.get? b = some o'
  tups : ∀ b xs, H b = some (.tup xs) → H' b = some (.tup xs)
  frzs : ∀ b o u, H b = some (.frz o u) → H' b = some (.frz o u)
  tbls : ∀ b ps, H b = some (.tbl ps) → ∃ more, H' b = some (.tbl (ps ++ more))
section
variable {fs fs' ex ex' : List Addr} {H H1 H2 : Hp} {h h1 h2 h' : Heap} {a x e : Addr} {o : HO}
theorem Un.any (u : Un fs ex H H1 h h1) {b : Addr} {ob : Obj} (q : h.get? b = some ob) (n : H b = none) (hx : b ∉ ex) : ∃ sl, h1.get? b = some { ob with slots := sl } := by
  by_cases hb : b ∈ fs
  · exact u.slot b ob q n hb hx
  · exact ⟨ob.slots, u.keep b ob q n hb hx⟩
theorem Un.trans (a : Un fs ex H H1 h h1) (b : Un fs ex H1 H2 h1 h2) : Un fs ex H H2 h h2 where
  keep := fun c ob q n hc hx => b.keep c ob (a.keep c ob q n hc hx) (a.free c ob q n hx) hc hx
  slot := fun c ob q n hc hx => by
    obtain ⟨sl, e1⟩ := a.slot c ob q n hc hx
    obtain ⟨sl', e2⟩ := b.slot c _ e1 (a.free c ob q n hx) hc hx
    exact ⟨sl', e2⟩
  free := fun c ob q n hx => by
    obtain ⟨o', e1⟩ := a.there c ob q hx
    exact b.free c o' e1 (a.free c ob q n hx) hx
  there := fun c ob q hx => by
    obtain ⟨o', e1⟩ := a.there c ob q hx
    exact b.there c o' e1 hx
  tups := fun c xs q => b.tups c xs (a.tups c xs q)
  frzs := fun c ob xs q => b.frzs c ob xs (a.frzs c ob xs q)
  tbls := fun c ps q => by
    obtain ⟨m1, e1⟩ := a.tbls c ps q
    obtain ⟨m2, e2⟩ := b.tbls c _ e1
    exact ⟨m1 ++ m2, by rw [e2, Array.append_assoc]⟩
theorem Un.kept (k : ∀ b u, h.get? b = some u → h'.get? b = some u) : Un fs ex H H h h' :=
  ⟨fun b ob q _ _ _ => k b ob q, fun b ob q _ _ _ => ⟨ob.slots, k b ob q⟩, fun _ _ _ n _ => n, fun b ob q _ => ⟨ob, k b ob q⟩, fun _ _ q => q, fun _ _ _ q => q, fun _ ps q => ⟨#[], by rw [q]; simp⟩⟩
theorem Un.refl : Un fs ex H H h h := Un.kept fun _ _ q => q
theorem Un.laid (k : ∀ b u, h.get? b = some u → h'.get? b = some u) (hp : h.objs.size ≤ a) (hn : H a = none) : Un fs ex H (upd H a o) h h' where
  keep := fun b u q _ _ _ => k b u q
  slot := fun b u q _ _ _ => ⟨u.slots, k b u q⟩
  free := fun b u q n _ => by rw [upd_ne (Nat.ne_of_lt (Nat.lt_of_lt_of_le (Heap.lt_size q) hp))]; exact n
  there := fun b u q _ => ⟨u, k b u q⟩
  tups := fun b xs q => by rw [upd_ne (ne_of_none q hn)]; exact q
  frzs := fun b u xs q => by rw [upd_ne (ne_of_none q hn)]; exact q
  tbls := fun b ps q => ⟨#[], by rw [upd_ne (ne_of_none q hn), q]; simp⟩
theorem Un.write (mu : Mut (H x)) (he : e = x ∨ H e = some (.own x)) (k : ∀ b u, b ≠ e → h.get? b = some u → h'.get? b = some u) (heo : ∃ u, h'.get? e = some u) : Un fs ex H (upd H x o) h h' := by
  have hx : ∀ b, H b = none → b ≠ x := fun b n z => by subst z; rw [n] at mu; exact mu
  have hb : ∀ b, H b = none → b ≠ e := fun b n z => by
    subst z
    rcases he with r | r
    · exact hx b n r
    · rw [n] at r; cases r
  have hm : ∀ b u, H b = some u → ¬ Mut (some u) → b ≠ x := fun b u q nm z => by subst z; rw [q] at mu; exact nm mu
  refine ⟨fun b u q n _ _ => k b u (hb b n) q, fun b u q n _ _ => ⟨u.slots, k b u (hb b n) q⟩, fun b u q n _ => by rw [upd_ne (hx b n)]; exact n, fun b u q _ => ?_,
    fun b xs q => by rw [upd_ne (hm b _ q fun z => z)]; exact q, fun b u xs q => by rw [upd_ne (hm b _ q fun z => z)]; exact q, fun b ps q => ⟨#[], by rw [upd_ne (hm b _ q fun z => z), q]; simp⟩⟩
  by_cases hbe : b = e
  · subst hbe; exact heo
  · exact ⟨u, k b u hbe q⟩
theorem Un.mono (u : Un fs ex H H1 h h1) (hs : ∀ b ∈ fs, b ∈ fs') (hx : ∀ b ∈ ex, b ∈ ex') : Un fs' ex' H H1 h h1 :=
  ⟨fun b ob q n hb he => u.keep b ob q n (fun z => hb (hs b z)) fun z => he (hx b z), fun _ _ q n _ he => u.any q n fun z => he (hx _ z), fun b ob q n he => u.free b ob q n fun z => he (hx b z), fun b ob q he => u.there b ob q fun z => he (hx b z), u.tups, u.frzs, u.tbls⟩
end
def trk (h : Heap) (H : Hp) : List Addr := (List.range h.objs.size).filter fun a => (H a).isSome
def hidT (h : Heap) (H : Hp) : Heap := PySem.W.hideAll h (trk h H)
theorem hidT_size (h : Heap) (H : Hp) : (hidT h H).objs.size = h.objs.size := PySem.W.hideAll_size _ _
theorem hidT_get {h : Heap} {H : Hp} {b : Addr} {o : Obj} (e : h.get? b = some o) (n : H b = none) : (hidT h H).get? b = some o :=
  PySem.W.hideAll_get _ e fun hm => by
    have q : (H b).isSome = true := (List.mem_filter.mp hm).2
    rw [n] at q; simp at q
theorem of_hidT {h : Heap} {H : Hp} {b : Addr} {o : Obj} (e : (hidT h H).get? b = some o) : h.get? b = some o ∧ H b = none := by
  have e' : h.get? b = some o := PySem.W.of_hideAll (trk h H) e
  refine ⟨e', ?_⟩
  cases q : H b with
  | none => rfl
  | some x =>
    have hm : b ∈ trk h H := List.mem_filter.mpr ⟨List.mem_range.mpr (Heap.lt_size e'), by simp [q]⟩
    have z : (hidT h H).get? b = none := PySem.W.hideAll_none (trk h H) hm
    rw [z] at e; cases e
def allNews (g h : Heap) (L : Addr) : List (Addr × Obj) := (List.range h.objs.size).filterMap fun a => if a = L ∨ (g.get? a).isSome = true then none else (h.get? a).map fun o => (a, o)
def rest (g h : Heap) (L d : Addr) : List (Addr × Obj) := (allNews g h L).filter fun p => decide (p.1 ≠ d)
end L2
namespace L2
open PySem PySem.Spec PyProof.Rows
structure Mod (K : PySem.W.Frag) (mg : Str → Option Value) (base : Heap) : Prop where
  kin : K.In base
  glob : base.Ns mainGlobals mg
  blt : ∃ mb, base.Ns builtinsNs mb ∧ ∀ x : Str, x ≠ "__name__" → mb x = bootBuiltins x
  nolimit : base.NoLimit
structure Cx where
  prog : Program
  w : World
  K : PySem.W.Frag
  mg : Str → Option Value
  base : Heap
  A : Around
  N : List Str
  s₀ : Shared
  H₀ : Hp
  env : Env
  outer : List Env
  stack : List Env
  ex : List Addr
  fn : Str → Bool
  calm : Bool
  pn : List (Addr × Obj)
  xe : Value → Shared → Prop
def frs (l : List Env) : List Addr := l.filterMap (·.frame)
abbrev Cx.fs (X : Cx) : List Addr := frs X.outer
def Vis (sc : Scope) (x : Str) : Prop := sc.names.lookup x = some .local ∨ sc.names.lookup x = some .cell ∨ sc.names.lookup x = some .free
def Loc (sc : Scope) (x : Str) : Prop := sc.names.lookup x = some .local ∨ sc.names.lookup x = some .cell
def Look (env : Env) (h : Heap) (m : Str → Option Value) (x : Str) (u : Value) : Prop :=
  (env.kindOf x = some .local ∧ m x = some u) ∨ ((env.kindOf x = some .cell ∨ env.kindOf x = some .free) ∧ ∃ c, env.cells.lookup x = some c ∧ h.IsCell c (some u))
structure Cx.Ok (X : Cx) : Prop where
  mod : Mod X.K X.mg X.base
  kind : X.env.scope.kind = .function
  glob : X.env.globals = mainGlobals
  blt : X.env.builtins = builtinsNs
  above : X.s₀.heap.objs.size ≤ X.env.locals
  inj : ∀ x y c, X.env.cells.lookup x = some c → X.env.cells.lookup y = some c → x = y
  has : ∀ x, (X.env.kindOf x = some .cell ∨ X.env.kindOf x = some .free) → ∃ c, X.env.cells.lookup x = some c
  cab : ∀ x c, X.fn x = true → X.env.cells.lookup x = some c → X.s₀.heap.objs.size ≤ c
  hd : X.calm = true → X.A.handled = none
  frames : X.A.frames = some X.stack
  stk : X.stack = X.outer ∨ (X.stack = X.env :: X.outer ∧ X.env.frame = some X.env.locals)
  exf : ∀ b ∈ X.ex, b ≠ X.env.locals ∧ ∀ x c, X.env.cells.lookup x = some c → c ≠ b
  bs : ∀ b o, X.base.get? b = some o → X.s₀.heap.get? b = some o ∧ X.H₀ b = none
  bsz : X.base.objs.size ≤ X.s₀.heap.objs.size
  noex : ∀ b o, X.base.get? b = some o → b ∉ X.ex
  exfs : ∀ b ∈ X.ex, b ∉ X.fs
  funs : X.s₀.heap.FunFrames X.base X.outer
  frf : ∀ b ∈ X.fs, X.H₀ b = none
structure Inv (X : Cx) (pins : List (Addr × Obj)) (σ : List (Option V)) (H : Hp) (s : Shared) : Prop where
  ok : X.Ok
  os : s.os = X.s₀.os
  bare : AllBare s.gens
  base : Un X.fs X.ex X.H₀ H X.s₀.heap s.heap
  loc : ∃ m, s.heap.Ns X.env.locals m ∧ ∀ (i : Nat) (x : Str) (v : V), X.N[i]? = some x → σ[i]? = some (some v) → Vis X.env.scope x → ∃ u, RelV v u ∧ Look X.env s.heap m x u
  cell : ∀ x c, X.env.cells.lookup x = some c → ∃ v, s.heap.IsCell c v
  free : H X.env.locals = none
  freeC : ∀ x c, X.env.cells.lookup x = some c → H c = none
  pin : ∀ p ∈ X.pn ++ pins, s.heap.get? p.1 = some p.2 ∧ H p.1 = none ∧ p.1 ≠ X.env.locals ∧ p.1 ∉ X.fs ∧ ∀ v, p.2.data ≠ .cell v
  hok : HOk X.prog X.w H s.heap
  len : σ.length = X.N.length
section
variable {X : Cx} {pins : List (Addr × Obj)} {σ : List (Option V)} {H H' : Hp} {s : Shared} {h' : Heap}
theorem Cx.Ok.nofr (ok : X.Ok) {b : Addr} {o : Obj} (e : X.base.get? b = some o) : b ∉ X.fs := fun hb => by
  have := (ok.funs.mem hb).1
  rw [e] at this; cases this
theorem Inv.bs (I : Inv X pins σ H s) : ∀ b o, X.base.get? b = some o → s.heap.get? b = some o ∧ H b = none := fun b o e =>
  ⟨I.base.keep b o (I.ok.bs b o e).1 (I.ok.bs b o e).2 (I.ok.nofr e) (I.ok.noex b o e), I.base.free b o (I.ok.bs b o e).1 (I.ok.bs b o e).2 (I.ok.noex b o e)⟩
theorem Inv.bk (I : Inv X pins σ H s) : ∀ b o, X.base.get? b = some o → s.heap.get? b = some o := fun b o e => (I.bs b o e).1
theorem Inv.mod (I : Inv X pins σ H s) : Mod X.K X.mg X.base := I.ok.mod
theorem Inv.kIn (I : Inv X pins σ H s) : X.K.In s.heap := I.ok.mod.kin.keeps I.bk
theorem Inv.nolimit (I : Inv X pins σ H s) : s.heap.NoLimit := I.ok.mod.nolimit.keeps I.bk
theorem Inv.lt (I : Inv X pins σ H s) : X.env.locals < s.heap.objs.size := let ⟨_, hn, _⟩ := I.loc; hn.lt
theorem Inv.sz (I : Inv X pins σ H s) : X.s₀.heap.objs.size ≤ s.heap.objs.size := Nat.le_trans I.ok.above (Nat.le_of_lt I.lt)
theorem Inv.nofs (I : Inv X pins σ H s) {a : Addr} (h : s.heap.objs.size ≤ a) : a ∉ X.fs := fun hb => by
  obtain ⟨_, o, ho, _⟩ := I.ok.funs.mem hb
  exact absurd (Nat.lt_of_lt_of_le (Heap.lt_size ho) (Nat.le_trans I.sz h)) (Nat.lt_irrefl _)
theorem Inv.cne (I : Inv X pins σ H s) : ∀ x c, X.env.cells.lookup x = some c → c ≠ X.env.locals := fun x c e z => by
  obtain ⟨v, o, ho, hd⟩ := I.cell x c e
  obtain ⟨m, ⟨o', es, ep, ho', hd', _⟩, _⟩ := I.loc
  rw [z, ho'] at ho; cases ho; rw [hd'] at hd; cases hd
theorem Inv.funs (I : Inv X pins σ H s) : s.heap.FunFrames X.base X.outer := by
  have all : ∀ (l : List Env), (∀ b ∈ frs l, b ∈ X.fs) → X.s₀.heap.FunFrames X.base l → s.heap.FunFrames X.base l := by
    intro l
    induction l with
    | nil => intro _ _; trivial
    | cons env r ih =>
      intro hs hl
      obtain ⟨hk, ⟨L, o, hf, hn, ho, hd⟩, hr⟩ := hl
      have hL : L ∈ X.fs := hs L (by unfold frs; rw [List.filterMap_cons, hf]; exact List.mem_cons_self)
      obtain ⟨sl, e⟩ := I.base.slot L o ho (I.ok.frf L hL) hL fun z => I.ok.exfs L z hL
      exact ⟨hk, ⟨L, _, hf, hn, e, hd⟩, ih (fun b hb => hs b (by unfold frs; rw [List.filterMap_cons, hf]; exact List.mem_cons_of_mem _ hb)) hr⟩
  exact all X.outer (fun _ hb => hb) I.ok.funs
theorem Inv.stack (I : Inv X pins σ H s) : s.heap.FunFrames X.base X.stack := by
  rcases I.ok.stk with e | ⟨e, hf⟩
  · rw [e]; exact I.funs
  · rw [e]
    obtain ⟨m, hn, _⟩ := I.loc
    refine .cons (by rw [I.ok.kind]; decide) hf hn ?_ I.funs
    exact Heap.get?_none_of_le (Nat.le_trans I.ok.bsz I.ok.above)
theorem Inv.stkSub (I : Inv X pins σ H s) : ∀ b ∈ frs X.stack, b ∈ X.env.locals :: X.fs := fun b hb => by
  rcases I.ok.stk with e | ⟨e, hf⟩
  · rw [e] at hb; exact List.mem_cons_of_mem _ hb
  · rw [e] at hb
    unfold frs at hb
    rw [List.filterMap_cons, hf] at hb
    exact hb
theorem Inv.stkFree (I : Inv X pins σ H s) : ∀ b ∈ frs X.stack, H b = none := fun b hb => by
  rcases List.mem_cons.mp (I.stkSub b hb) with e | hb
  · rw [e]; exact I.free
  · obtain ⟨_, o, ho, _⟩ := I.ok.funs.mem hb
    exact I.base.free b o ho (I.ok.frf b hb) fun z => I.ok.exfs b z hb
theorem Inv.step {g' : Array GenState} {t' : Nat} {d' : Drawn} {ch : List Addr} (I : Inv X pins σ H s)
    (hch : ∀ b ∈ ch, (b ∈ X.ex ∨ X.s₀.heap.objs.size ≤ b) ∧ b ≠ X.env.locals ∧ (∀ x c, X.env.cells.lookup x = some c → c ≠ b) ∧ ∀ p ∈ X.pn ++ pins, p.1 ≠ b)
    (keep : ∀ b o, b ≠ X.env.locals → b ∉ X.fs → b ∉ ch → s.heap.get? b = some o → H b = none → h'.get? b = some o)
    (slot : ∀ b o, b ≠ X.env.locals → b ∈ X.fs → b ∉ ch → s.heap.get? b = some o → H b = none → ∃ sl, h'.get? b = some { o with slots := sl }) (free : ∀ b o, b ∉ ch → s.heap.get? b = some o → H b = none → H' b = none)
    (there : ∀ b o, b ∉ ch → s.heap.get? b = some o → ∃ o', h'.get? b = some o')
    (tups : ∀ b xs, H b = some (.tup xs) → H' b = some (.tup xs)) (frzs : ∀ b o u, H b = some (.frz o u) → H' b = some (.frz o u)) (tbls : ∀ b ps, H b = some (.tbl ps) → ∃ more, H' b = some (.tbl (ps ++ more)))
    (ns : ∀ m, s.heap.Ns X.env.locals m → h'.Ns X.env.locals m) (hok : HOk X.prog X.w H' h') (hg : AllBare g') :
    Inv X pins σ H' { s with heap := h', gens := g', drawn := d', toks := t' } := by
  have neL : ∀ b o, X.s₀.heap.get? b = some o → b ≠ X.env.locals := fun b o e => Nat.ne_of_lt (Nat.lt_of_lt_of_le (Heap.lt_size e) I.ok.above)
  have neC : ∀ b o, X.s₀.heap.get? b = some o → b ∉ X.ex → b ∉ ch := fun b o e hx hb => by
    rcases (hch b hb).1 with z | z
    · exact hx z
    · exact absurd (Nat.lt_of_lt_of_le (Heap.lt_size e) z) (Nat.lt_irrefl _)
  have cellK : ∀ x c, X.env.cells.lookup x = some c → ∀ v, s.heap.IsCell c v → h'.IsCell c v := fun x c e v ⟨o, ho, hd⟩ => by
    have nch : c ∉ ch := fun z => (hch c z).2.2.1 x c e rfl
    by_cases hc : c ∈ X.fs
    · obtain ⟨sl, q⟩ := slot c o (I.cne x c e) hc nch ho (I.freeC x c e)
      exact ⟨_, q, hd⟩
    · exact ⟨o, keep c o (I.cne x c e) hc nch ho (I.freeC x c e), hd⟩
  refine ⟨I.ok, I.os, hg, ⟨fun b o e n hb hx => ?_, fun b o e n hb hx => ?_, fun b o e n hx => ?_, fun b o e hx => ?_, fun b xs e => tups b xs (I.base.tups b xs e), fun b o xs e => frzs b o xs (I.base.frzs b o xs e), fun b ps e => ?_⟩, ?_, fun x c e => ?_, ?_, fun x c e => ?_, fun p hp => ?_, hok, I.len⟩
  · exact keep b o (neL b o e) hb (neC b o e hx) (I.base.keep b o e n hb hx) (I.base.free b o e n hx)
  · obtain ⟨sl, e1⟩ := I.base.slot b o e n hb hx
    obtain ⟨sl', e2⟩ := slot b _ (neL b o e) hb (neC b o e hx) e1 (I.base.free b o e n hx)
    exact ⟨sl', e2⟩
  · obtain ⟨o', e1⟩ := I.base.there b o e hx
    exact free b o' (neC b o e hx) e1 (I.base.free b o e n hx)
  · obtain ⟨o', e1⟩ := I.base.there b o e hx
    exact there b o' (neC b o e hx) e1
  · obtain ⟨m1, e1⟩ := I.base.tbls b ps e
    obtain ⟨m2, e2⟩ := tbls b _ e1
    exact ⟨m1 ++ m2, by rw [e2, Array.append_assoc]⟩
  · obtain ⟨m, hn, hl⟩ := I.loc
    refine ⟨m, ns m hn, fun i x v e1 e2 e3 => ?_⟩
    obtain ⟨u, r, l⟩ := hl i x v e1 e2 e3
    refine ⟨u, r, ?_⟩
    rcases l with l | ⟨k, c, e, z⟩
    · exact .inl l
    · exact .inr ⟨k, c, e, cellK x c e _ z⟩
  · obtain ⟨v, z⟩ := I.cell x c e
    exact ⟨v, cellK x c e v z⟩
  · obtain ⟨m, ⟨o, _, _, ho, _⟩, _⟩ := I.loc
    exact free _ o (fun z => (hch _ z).2.1 rfl) ho I.free
  · obtain ⟨v, o, ho, hd⟩ := I.cell x c e
    exact free c o (fun z => (hch c z).2.2.1 x c e rfl) ho (I.freeC x c e)
  · obtain ⟨e, n, ne, nf, d⟩ := I.pin p hp
    have nch : p.1 ∉ ch := fun z => (hch p.1 z).2.2.2 p hp rfl
    exact ⟨keep p.1 p.2 ne nf nch e n, free p.1 p.2 nch e n, ne, nf, d⟩
theorem Inv.un {t' : Nat} (I : Inv X pins σ H s) (u : Un X.fs [] H H' s.heap h') (hok : HOk X.prog X.w H' h') : Inv X pins σ H' { s with heap := h', toks := t' } := by
  obtain ⟨m, ⟨o, es, ep, ho, r⟩, _⟩ := id I.loc
  obtain ⟨sl, hL⟩ := u.any ho I.free (by simp)
  exact I.step (g' := s.gens) (d' := s.drawn) (ch := []) (fun _ z => nomatch z) (fun b o _ hb _ e n => u.keep b o e n hb (by simp)) (fun b o _ hb _ e n => u.slot b o e n hb (by simp)) (fun b o _ e n => u.free b o e n (by simp)) (fun b o _ e => u.there b o e (by simp)) u.tups u.frzs u.tbls (fun m' hm => by
    obtain ⟨o', es', ep', ho', r'⟩ := hm
    rw [ho] at ho'; cases ho'
    exact ⟨_, es', ep', hL, r'⟩) hok I.bare
theorem Inv.call {g' : Array GenState} {t' : Nat} {d' : Drawn} {ch : List Addr} (I : Inv X pins σ H s) (u : Un (frs X.stack) ch H H' s.heap h') (hok : HOk X.prog X.w H' h') (hg : AllBare g')
    (hch : ∀ b ∈ ch, (b ∈ X.ex ∨ X.s₀.heap.objs.size ≤ b) ∧ b ≠ X.env.locals ∧ (∀ x c, X.env.cells.lookup x = some c → c ≠ b) ∧ ∀ p ∈ X.pn ++ pins, p.1 ≠ b) :
    Inv X pins σ H' { s with heap := h', gens := g', drawn := d', toks := t' } := by
  obtain ⟨m, ⟨o, es, ep, ho, r⟩, _⟩ := id I.loc
  obtain ⟨sl, hL⟩ := u.any ho I.free fun z => (hch _ z).2.1 rfl
  exact I.step (ch := ch) hch (fun b o hL hb hc e n => u.keep b o e n (fun z => (List.mem_cons.mp (I.stkSub b z)).elim hL hb) hc) (fun b o _ _ hc e n => u.any e n hc) (fun b o hc e n => u.free b o e n hc) (fun b o hc e => u.there b o e hc) u.tups u.frzs u.tbls (fun m' hm => by
    obtain ⟨o', es', ep', ho', r'⟩ := hm
    rw [ho] at ho'; cases ho'
    exact ⟨_, es', ep', hL, r'⟩) hok hg
theorem Inv.turned {t' : Nat} {it : Addr} (I : Inv X pins σ H s) (k : ∀ b o, b ≠ it → s.heap.get? b = some o → h'.get? b = some o) (hn : H it = none) (hL : it ≠ X.env.locals)
    (h1 : it ∈ X.ex ∨ X.s₀.heap.objs.size ≤ it) (h2 : ∀ x c, X.env.cells.lookup x = some c → c ≠ it) (h3 : ∀ p ∈ X.pn ++ pins, p.1 ≠ it) : Inv X pins σ H { s with heap := h', toks := t' } := by
  have nit : ∀ b u, H b = some u → b ≠ it := fun b u e z => by rw [z, hn] at e; cases e
  refine I.step (g' := s.gens) (d' := s.drawn) (ch := [it]) (fun b hb => ?_) (fun b o _ _ hc e _ => k b o (fun z => hc (by simp [z])) e) (fun b o _ _ hc e _ => ⟨o.slots, k b o (fun z => hc (by simp [z])) e⟩) (fun _ _ _ _ n => n)
    (fun b o hc e => ⟨o, k b o (fun z => hc (by simp [z])) e⟩) (fun _ _ e => e) (fun _ _ _ e => e) (fun b ps e => ⟨#[], by rw [e]; simp⟩) (fun m hm => ?_) (fun b u e => ?_) I.bare
  · have e : b = it := by simpa using hb
    subst e
    exact ⟨h1, hL, h2, h3⟩
  · obtain ⟨o, es, ep, ho, r⟩ := hm
    exact ⟨o, es, ep, k _ o (Ne.symm hL) ho, r⟩
  · refine (I.hok b u e).stay (fun c v hc q => k c v ?_ q) (fun _ q => q) fun _ _ q => q
    rcases hc with z | z
    · rw [z]; exact nit b u e
    · exact nit c _ z
theorem Inv.tok (I : Inv X pins σ H s) (t : Nat) : Inv X pins σ H { s with toks := t } := I.un (h' := s.heap) (t' := t) Un.refl I.hok
theorem Inv.kept {t' : Nat} (I : Inv X pins σ H s) (k : ∀ b u, s.heap.get? b = some u → h'.get? b = some u) : Inv X pins σ H { s with heap := h', toks := t' } := I.un (Un.kept k) (I.hok.kept k)
theorem Inv.laid {a : Addr} {o : HO} {t' : Nat} (I : Inv X pins σ H s) (k : ∀ b u, s.heap.get? b = some u → h'.get? b = some u) (hp : s.heap.objs.size ≤ a) (new : ObjOk X.prog X.w (upd H a o) h' a o) :
    Inv X pins σ (upd H a o) { s with heap := h', toks := t' } := I.un (Un.laid k hp (I.hok.fresh hp)) (I.hok.laid k hp new)
theorem Inv.write {x e : Addr} {o : HO} {t' : Nat} (I : Inv X pins σ H s) (mu : Mut (H x)) (he : e = x ∨ H e = some (.own x)) (k : ∀ b u, b ≠ e → s.heap.get? b = some u → h'.get? b = some u) (heo : ∃ u, h'.get? e = some u)
    (new : ObjOk X.prog X.w (upd H x o) h' x o) : Inv X pins σ (upd H x o) { s with heap := h', toks := t' } := I.un (Un.write mu he k heo) (I.hok.write mu he k heo new)
theorem Inv.pins_of {pins' : List (Addr × Obj)} (I : Inv X pins σ H s) (h : ∀ p ∈ pins', s.heap.get? p.1 = some p.2 ∧ H p.1 = none ∧ p.1 ≠ X.env.locals ∧ p.1 ∉ X.fs ∧ ∀ v, p.2.data ≠ .cell v) : Inv X pins' σ H s :=
  ⟨I.ok, I.os, I.bare, I.base, I.loc, I.cell, I.free, I.freeC, fun p hp => (List.mem_append.mp hp).elim (fun z => I.pin p (List.mem_append_left _ z)) (h p), I.hok, I.len⟩
theorem nodup_ix {N : List Str} (hN : N.Nodup) {i j : Nat} {x : Str} (a : N[i]? = some x) (b : N[j]? = some x) : i = j := by
  obtain ⟨h1, e1⟩ := List.getElem?_eq_some_iff.mp a
  obtain ⟨h2, e2⟩ := List.getElem?_eq_some_iff.mp b
  exact (List.getElem_inj hN).mp (e1.trans e2.symm)
theorem store_ok2 {M : Model} {A : Around} {E : Value → Shared → Prop} {i : Nat} {x : Str} {v : V} {u : Value} {Q : Unit → Shared → Prop} (I : Inv X pins σ H s) (hN : X.N.Nodup) (hi : X.N[i]? = some x) (hx : Loc X.env.scope x) (r : RelV v u)
    (h : ∀ s', Inv X pins (σ.set i (some v)) H s' → (∃ a, Heap.SameBut a s.heap s'.heap ∧ (a = X.env.locals ∨ X.env.cells.lookup x = some a)) → Q () s') (hf : X.fn x = true ∨ X.env.scope.names.lookup x = some .local := by first | exact .inl rfl | exact .inr rfl | assumption) : wpAny M A (storeName X.env x u) Q E s := by
  obtain ⟨m, hn, hl⟩ := id I.loc
  have hcls : (X.env.scope.kind == .class || (X.env.scope.kind == .module && X.env.locals != X.env.globals)) = false := by rw [I.ok.kind]; rfl
  have hiσ : i < σ.length := by rw [I.len]; exact (List.getElem?_eq_some_iff.mp hi).1
  have cne := I.cne
  have tracked : ∀ {a : Addr} {h' : Heap}, (∃ o, s.heap.get? a = some o ∧ H a = none) → Heap.SameBut a s.heap h' → HOk X.prog X.w H h' := fun {a h'} ha hs b ob e => by
    obtain ⟨_, _, hfree⟩ := ha
    refine (I.hok b ob e).stay (fun c w' hc q => (hs.2 c ?_).trans q) (fun _ q => q) fun _ _ q => q
    rintro rfl
    rcases hc with rfl | hc
    · rw [hfree] at e; cases e
    · rw [hfree] at hc; cases hc
  rcases hx with hk | hk
  · refine wpAny_storeName_local hk hn (fun h' hn' hs => ?_) hcls
    obtain ⟨oL, _, _, hoL, _⟩ := id hn
    refine h _ ⟨I.ok, I.os, I.bare, ⟨fun b o e n hb hx => ?_, fun b o e n hb hx => ?_, I.base.free, fun b o e hx => ?_, I.base.tups, I.base.frzs, I.base.tbls⟩, ⟨_, hn', fun j y v' e1 e2 e3 => ?_⟩, fun y c e => ?_, I.free, I.freeC, fun p hp => ?_, tracked ⟨oL, hoL, I.free⟩ hs, by simpa using I.len⟩ ⟨_, hs, .inl rfl⟩
    · exact (hs.2 b (Nat.ne_of_lt (Nat.lt_of_lt_of_le (Heap.lt_size e) I.ok.above))).trans (I.base.keep b o e n hb hx)
    · obtain ⟨sl, e1⟩ := I.base.slot b o e n hb hx
      exact ⟨sl, (hs.2 b (Nat.ne_of_lt (Nat.lt_of_lt_of_le (Heap.lt_size e) I.ok.above))).trans e1⟩
    · obtain ⟨o', e1⟩ := I.base.there b o e hx
      exact ⟨o', (hs.2 b (Nat.ne_of_lt (Nat.lt_of_lt_of_le (Heap.lt_size e) I.ok.above))).trans e1⟩
    · by_cases hj : j = i
      · subst hj
        rw [hi] at e1; cases e1
        rw [List.getElem?_set_self hiσ] at e2
        cases e2
        exact ⟨u, r, .inl ⟨hk, by simp⟩⟩
      · rw [List.getElem?_set_ne (Ne.symm hj)] at e2
        obtain ⟨u', r', q⟩ := hl j y v' e1 e2 e3
        refine ⟨u', r', ?_⟩
        rcases q with ⟨k, e⟩ | ⟨k, c, e, z⟩
        · refine .inl ⟨k, ?_⟩
          have : y ≠ x := fun e => hj (nodup_ix hN e1 (e ▸ hi))
          simp [this, e]
        · exact .inr ⟨k, c, e, z.sameBut hs (cne y c e)⟩
    · obtain ⟨w', z⟩ := I.cell y c e
      exact ⟨w', z.sameBut hs (cne y c e)⟩
    · obtain ⟨e, n, ne, nf, d⟩ := I.pin p hp
      exact ⟨(hs.2 p.1 ne).trans e, n, ne, nf, d⟩
  · have hfn : X.fn x = true := by
      rcases hf with z | z
      · exact z
      · rw [z] at hk; cases hk
    obtain ⟨c, hc⟩ := I.ok.has x (.inl hk)
    obtain ⟨w', z⟩ := I.cell x c hc
    refine wpAny_storeName_cell I.ok.kind hk hc z (fun h' hc' hs => ?_)
    obtain ⟨oc, hoc, hocd⟩ := id z
    refine h { s with heap := h' } ⟨I.ok, I.os, I.bare, ⟨fun b o e n hb hx => ?_, fun b o e n hb hx => ?_, I.base.free, fun b o e hx => ?_, I.base.tups, I.base.frzs, I.base.tbls⟩, ⟨m, hn.sameBut hs (Ne.symm (cne x c hc)), fun j y v' e1 e2 e3 => ?_⟩, fun y c' e => ?_, I.free, I.freeC, fun p hp => ?_, tracked ⟨oc, hoc, I.freeC x c hc⟩ hs, by simpa using I.len⟩ ⟨c, hs, .inr hc⟩
    · exact (hs.2 b (Nat.ne_of_lt (Nat.lt_of_lt_of_le (Heap.lt_size e) (I.ok.cab x c hfn hc)))).trans (I.base.keep b o e n hb hx)
    · obtain ⟨sl, e1⟩ := I.base.slot b o e n hb hx
      exact ⟨sl, (hs.2 b (Nat.ne_of_lt (Nat.lt_of_lt_of_le (Heap.lt_size e) (I.ok.cab x c hfn hc)))).trans e1⟩
    · obtain ⟨o', e1⟩ := I.base.there b o e hx
      exact ⟨o', (hs.2 b (Nat.ne_of_lt (Nat.lt_of_lt_of_le (Heap.lt_size e) (I.ok.cab x c hfn hc)))).trans e1⟩
    · by_cases hj : j = i
      · subst hj
        rw [hi] at e1; cases e1
        rw [List.getElem?_set_self hiσ] at e2
        cases e2
        exact ⟨u, r, .inr ⟨.inl hk, c, hc, hc'⟩⟩
      · rw [List.getElem?_set_ne (Ne.symm hj)] at e2
        obtain ⟨u', r', q⟩ := hl j y v' e1 e2 e3
        refine ⟨u', r', ?_⟩
        rcases q with q | ⟨k, c', e, z'⟩
        · exact .inl q
        · refine .inr ⟨k, c', e, z'.sameBut hs ?_⟩
          rintro rfl
          exact hj (nodup_ix hN e1 (I.ok.inj _ _ _ e hc ▸ hi))
    · by_cases hcc : c' = c
      · subst hcc; exact ⟨_, hc'⟩
      · obtain ⟨w2, z2⟩ := I.cell y c' e
        exact ⟨w2, z2.sameBut hs hcc⟩
    · obtain ⟨e, n, ne, nf, d⟩ := I.pin p hp
      refine ⟨(hs.2 p.1 ?_).trans e, n, ne, nf, d⟩
      intro q
      rw [q, hoc] at e
      have q' : oc = p.2 := Option.some.inj e
      exact d w' (by rw [← q']; exact hocd)
theorem store_ok {M : Model} {A : Around} {E : Value → Shared → Prop} {i : Nat} {x : Str} {v : V} {u : Value} {Q : Unit → Shared → Prop} (I : Inv X pins σ H s) (hN : X.N.Nodup) (hi : X.N[i]? = some x) (hx : Loc X.env.scope x) (r : RelV v u)
    (h : ∀ s', Inv X pins (σ.set i (some v)) H s' → Q () s') (hf : X.fn x = true ∨ X.env.scope.names.lookup x = some .local := by first | exact .inl rfl | exact .inr rfl | assumption) : wpAny M A (storeName X.env x u) Q E s :=
  store_ok2 I hN hi hx r (fun s' I' _ => h s' I') hf
theorem Inv.call' {s' : Shared} {ch : List Addr} (I : Inv X pins σ H s) (ho : s'.os = s.os) (u : Un (frs X.stack) ch H H' s.heap s'.heap) (hok : HOk X.prog X.w H' s'.heap) (hg : AllBare s'.gens)
    (hch : ∀ b ∈ ch, (b ∈ X.ex ∨ X.s₀.heap.objs.size ≤ b) ∧ b ≠ X.env.locals ∧ (∀ x c, X.env.cells.lookup x = some c → c ≠ b) ∧ ∀ p ∈ X.pn ++ pins, p.1 ≠ b) : Inv X pins σ H' s' := by
  obtain ⟨h', g', d', t', o'⟩ := s'
  have e : o' = s.os := ho
  subst e
  exact I.call (g' := g') (t' := t') (d' := d') u hok hg hch
end
abbrev XK := Value → Option Addr → Hp → Prop
abbrev St := List (Option V)
abbrev VK := V → Hp → Prop
abbrev TE := St → Hp → VK → Prop
abbrev TT := St → Hp → (Bool → Hp → Prop) → Prop
abbrev TA := St → Hp → (List V → Hp → Prop) → Prop
structure Ends where
  nx : St → Hp → Prop
  rt : VK
  bk : St → Hp → Prop := fun _ _ => False
  ct : St → Hp → Prop := fun _ _ => False
abbrev TS := Ends → St → Hp → Prop
def EP (X : Cx) (pins : List (Addr × Obj)) (σ : St) (Q : VK) (u : Value) (s' : Shared) : Prop := ∃ v H', Inv X pins σ H' s' ∧ RelV v u ∧ Q v H'
def TP (X : Cx) (pins : List (Addr × Obj)) (σ : St) (Q : Bool → Hp → Prop) (b : Bool) (s' : Shared) : Prop := ∃ H', Inv X pins σ H' s' ∧ Q b H'
def AP (X : Cx) (pins : List (Addr × Obj)) (σ : St) (Q : List V → Hp → Prop) (us : List Value) (s' : Shared) : Prop := ∃ vs H', Inv X pins σ H' s' ∧ Vals vs us ∧ Q vs H'
def SP (X : Cx) (pins : List (Addr × Obj)) (D : Ends) (f : Flow) (s' : Shared) : Prop :=
  match f with
  | .next => ∃ σ' H', Inv X pins σ' H' s' ∧ D.nx σ' H'
  | .brk => ∃ σ' H', Inv X pins σ' H' s' ∧ D.bk σ' H'
  | .cont => ∃ σ' H', Inv X pins σ' H' s' ∧ D.ct σ' H'
  | .ret u => ∃ v σ' H', Inv X pins σ' H' s' ∧ RelV v u ∧ D.rt v H'
def PE (X : Cx) (e : Expr) (t : TE) : Prop :=
  ∀ (pins : List (Addr × Obj)) (s : Shared) (σ : St) (H : Hp) (Q : VK), Inv X pins σ H s → t σ H Q → wpAny (model X.prog X.w) X.A (eval e X.env) (EP X pins σ Q) X.xe s
def PT (X : Cx) (e : Expr) (t : TT) : Prop :=
  ∀ (pins : List (Addr × Obj)) (s : Shared) (σ : St) (H : Hp) (Q : Bool → Hp → Prop), Inv X pins σ H s → t σ H Q → wpAny (model X.prog X.w) X.A (isTrue e X.env (eval e X.env)) (TP X pins σ Q) X.xe s
def PW (X : Cx) (e : Expr) (t : TT) : Prop :=
  ∀ (whole : Sem Value) (pins : List (Addr × Obj)) (s : Shared) (σ : St) (H : Hp) (Q : Bool → Hp → Prop), Inv X pins σ H s → t σ H Q → wpAny (model X.prog X.w) X.A (isTrue e X.env whole) (TP X pins σ Q) X.xe s
theorem PW.pt {X : Cx} {e : Expr} {t : TT} (h : PW X e t) : PT X e t := h _
def PA (X : Cx) (es : List Expr) (t : TA) : Prop :=
  ∀ (pos : Pos) (pins : List (Addr × Obj)) (s : Shared) (σ : St) (H : Hp) (Q : List V → Hp → Prop), Inv X pins σ H s → t σ H Q → wpAny (model X.prog X.w) X.A (spliced (backTo pos (starEach es X.env))) (AP X pins σ Q) X.xe s
def PS (X : Cx) (st : Stmt) (t : TS) : Prop :=
  ∀ (pins : List (Addr × Obj)) (s : Shared) (σ : St) (H : Hp) (D : Ends), Inv X pins σ H s → t D σ H → wpAny (model X.prog X.w) X.A (exec st X.env) (SP X pins D) X.xe s
def PSs (X : Cx) (st : List Stmt) (t : TS) : Prop :=
  ∀ (pins : List (Addr × Obj)) (s : Shared) (σ : St) (H : Hp) (D : Ends), Inv X pins σ H s → t D σ H → wpAny (model X.prog X.w) X.A (execs st X.env) (SP X pins D) X.xe s
theorem thn {α : Type} {t : Sem α} {Q Q' : α → Shared → Prop} {M : Model} {A : Around} {E : Value → Shared → Prop} {s : Shared} (h : wpAny M A t Q E s) (hQ : ∀ a s, Q a s → Q' a s) : wpAny M A t Q' E s := wpAny_mono h hQ fun _ _ x => x
end L2
namespace L2
open PySem PySem.Spec PyProof.Rows
section
variable {X : Cx}
def tVar (i : Nat) : TE := fun σ H Q => ∃ v, σ[i]? = some (some v) ∧ Q v H
def tC (v : V) : TE := fun _ H Q => Q v H
theorem pe_var {i : Nat} {x : Str} {pos : Pos} (hN : X.N[i]? = some x) (hv : Vis X.env.scope x) (hd : (x == ("__debug__" : Str)) = false := by decide) (hcd : (x == ("__classdict__" : Str)) = false := by decide) : PE X (.Name x pos) (tVar i) := by
  intro pins s σ H Q I h
  obtain ⟨v, e, h⟩ := h
  obtain ⟨m, hn, hl⟩ := I.loc
  obtain ⟨u, r, l⟩ := hl i x v hN e hv
  have fin : EP X pins σ Q u s := ⟨v, H, I, r, h⟩
  rcases l with ⟨hk, hm⟩ | ⟨hk, c, hc, hcell⟩
  · exact wpAny_Name (wpAny_loadName_local I.ok.kind hk hn hm fin) hd
  · rcases hk with hk | hk
    · exact wpAny_Name (wpAny_loadName_cell I.ok.kind hk hc hcell fin) hd
    · exact wpAny_Name (wpAny_loadName_free I.ok.kind hk hc hcell fin hcd) hd
theorem pe_int {i j pos} : PE X (.Constant (.int i) j pos) (tC (.int i)) := fun _ _ _ H _ I h => wpAny_Constant_int ⟨.int i, H, I.tok _, ⟨_, rfl⟩, h⟩
theorem pe_bl {b j pos} : PE X (.Constant (.bool b) j pos) (tC (.bl b)) := fun _ _ _ H _ I h => Constant_bool ⟨.bl b, H, I, rfl, h⟩
theorem pe_non {j pos} : PE X (.Constant .none j pos) (tC .non) := fun _ _ _ H _ I h => Constant_none ⟨.non, H, I, rfl, h⟩
theorem pe_str {x j pos} : PE X (.Constant (.str x) j pos) (tC (.str x)) := fun _ _ _ H _ I h => Calls.Constant_str ⟨.str x, H, I.tok _, ⟨_, rfl⟩, h⟩
def Gl (X : Cx) (x : Str) : Prop := X.env.kindOf x = some .globalImplicit
theorem ld_glob {E : Value → Shared → Prop} {pins : List (Addr × Obj)} {s : Shared} {σ : St} {H : Hp} {x : Str} {u : Value} {pos : Pos} {Q : Value → Shared → Prop} (I : Inv X pins σ H s) (hg : Gl X x) (hm : X.mg x = some u) (h : Q u s)
    (hd : (x == ("__debug__" : Str)) = false := by decide) : wpAny (model X.prog X.w) X.A (eval (.Name x pos) X.env) Q E s :=
  Calls.Name_function_global I.ok.kind hg (Calls.loadGlobal_global (by rw [I.ok.glob]; exact I.mod.glob.keeps I.bk) hm h) hd
theorem ld_blt {E : Value → Shared → Prop} {pins : List (Addr × Obj)} {s : Shared} {σ : St} {H : Hp} {x : Str} {u : Value} {pos : Pos} {Q : Value → Shared → Prop} (I : Inv X pins σ H s) (hg : Gl X x) (hm : X.mg x = none) (hv : bootBuiltins x = some u) (h : Q u s)
    (hn : x ≠ "__name__" := by decide) (hd : (x == ("__debug__" : Str)) = false := by decide) : wpAny (model X.prog X.w) X.A (eval (.Name x pos) X.env) Q E s := by
  obtain ⟨mb, h1, h2⟩ := I.mod.blt
  exact Calls.Name_function_global I.ok.kind hg (Calls.loadGlobal_builtin (by rw [I.ok.glob]; exact I.mod.glob.keeps I.bk) hm (by rw [I.ok.blt]; exact h1.keeps I.bk) ((h2 x hn).trans hv) h) hd
theorem pe_bltn {x : Str} {v : V} {u : Value} {pos : Pos} (hg : Gl X x) (hm : X.mg x = none) (hv : bootBuiltins x = some u) (r : RelV v u) (hn : x ≠ "__name__" := by decide) (hd : (x == ("__debug__" : Str)) = false := by decide) : PE X (.Name x pos) (tC v) :=
  fun _ _ _ H _ I h => ld_blt I hg hm hv ⟨v, H, I, r, h⟩ hn hd
variable {a b : Expr} {ta tb : TE} {pos : Pos}
def tB (t : TE) : TT := fun σ H Q => t σ H fun x H1 => ∃ c, x = .bl c ∧ Q c H1
theorem pt_val {e : Expr} {t : TE} (h : PE X e t) (he : ∀ whole, isTrue e X.env whole = (do let v ← whole; standAt e.pos; holding [v] (truthy v)) := by intro _; rfl) : PT X e (tB t) := by
  intro pins s σ H Q I hw
  refine isTrue_plain (thn (h pins s σ H _ I hw) fun v s1 ⟨x, H1, I1, r1, q1⟩ => ?_) (he _)
  obtain ⟨d, rfl, q⟩ := q1
  cases r1
  exact wpAny_truthy_bool ⟨H1, I1, q⟩
variable {tA tB' : TT} {rest : List Expr}
def tAnd (t u : TT) : TT := fun σ H Q => t σ H fun c H1 => if c = true then u σ H1 Q else Q false H1
def tOr (t u : TT) : TT := fun σ H Q => t σ H fun c H1 => if c = true then Q true H1 else u σ H1 Q
def tNot (t : TT) : TT := fun σ H Q => t σ H fun c H1 => Q (!c) H1
theorem pw_and1 (ha : PT X a tA) : PW X (.BoolOp .And [a] pos) tA := by
  intro wh pins s σ H Q I h
  refine isTrue_and (thn (ha pins s σ H Q I h) fun c s1 e => ?_)
  cases c with
  | true => exact isTrue_and_nil e
  | false => exact e
theorem pw_or1 (ha : PT X a tA) : PW X (.BoolOp .Or [a] pos) tA := by
  intro wh pins s σ H Q I h
  refine isTrue_or (thn (ha pins s σ H Q I h) fun c s1 e => ?_)
  cases c with
  | false => exact isTrue_or_nil e
  | true => exact e
theorem pw_and (ha : PT X a tA) (hb : PW X (.BoolOp .And (b :: rest) pos) tB') : PW X (.BoolOp .And (a :: b :: rest) pos) (tAnd tA tB') := by
  intro wh pins s σ H Q I h
  refine isTrue_and (thn (ha pins s σ H _ I h) fun c s1 ⟨H1, I1, q1⟩ => ?_)
  cases c with
  | true => exact hb wh pins s1 σ H1 Q I1 q1
  | false => exact ⟨H1, I1, q1⟩
theorem pw_or (ha : PT X a tA) (hb : PW X (.BoolOp .Or (b :: rest) pos) tB') : PW X (.BoolOp .Or (a :: b :: rest) pos) (tOr tA tB') := by
  intro wh pins s σ H Q I h
  refine isTrue_or (thn (ha pins s σ H _ I h) fun c s1 ⟨H1, I1, q1⟩ => ?_)
  cases c with
  | true => exact ⟨H1, I1, q1⟩
  | false => exact hb wh pins s1 σ H1 Q I1 q1
theorem pt_not (ha : PT X a tA) : PT X (.UnaryOp .Not a pos) (tNot tA) := by
  intro pins s σ H Q I h
  exact isTrue_not (ha pins s σ H (fun c H1 => Q (!c) H1) I h)
def tAndV (ta tb : TE) : TE := fun σ H Q => ta σ H fun x H1 => ∃ c, x = .bl c ∧ if c = true then tb σ H1 Q else Q (.bl false) H1
def tOrV (ta tb : TE) : TE := fun σ H Q => ta σ H fun x H1 => ∃ c, x = .bl c ∧ if c = true then Q (.bl true) H1 else tb σ H1 Q
def tNotV (ta : TE) : TE := fun σ H Q => ta σ H fun x H1 => ∃ c, x = .bl c ∧ Q (.bl (!c)) H1
theorem pe_one {op} {t : TE} (h : PE X a t) : PE X (.BoolOp op [a] pos) t := fun pins s σ H Q I hw => BoolOp_one (h pins s σ H Q I hw)
theorem pe_and (ha : PE X a ta) (hb : PE X (.BoolOp .And (b :: rest) pos) tb) : PE X (.BoolOp .And (a :: b :: rest) pos) (tAndV ta tb) := by
  intro pins s σ H Q I h
  refine BoolOp_and (thn (ha pins s σ H _ I h) fun v s1 ⟨x, H1, I1, r1, q1⟩ => ?_)
  obtain ⟨c, rfl, q1⟩ := q1
  cases r1
  refine wpAny_truthy_bool ?_
  cases c with
  | true => exact hb pins s1 σ H1 Q I1 q1
  | false => exact ⟨.bl false, H1, I1, rfl, q1⟩
theorem pe_not (ha : PE X a ta) : PE X (.UnaryOp .Not a pos) (tNotV ta) := by
  intro pins s σ H Q I h
  refine UnaryOp_ (thn (ha pins s σ H _ I h) fun v s1 ⟨x, H1, I1, r1, q1⟩ => ?_)
  obtain ⟨c, rfl, q1⟩ := q1
  cases r1
  exact not_of (wpAny_truthy_bool ⟨.bl (!c), H1, I1, rfl, q1⟩)
def tIf (t : TT) (ta tb : TE) : TE := fun σ H Q => t σ H fun c H1 => if c = true then ta σ H1 Q else tb σ H1 Q
theorem pe_ifExp {c : Expr} (hc : PT X c tA) (ha : PE X a ta) (hb : PE X b tb) : PE X (.IfExp c a b pos) (tIf tA ta tb) := by
  intro pins s σ H Q I h
  refine wpAny_IfExp (thn (hc pins s σ H _ I h) fun d s1 ⟨H1, I1, q1⟩ => ?_)
  cases d with
  | true => exact ha pins s1 σ H1 Q I1 q1
  | false => exact hb pins s1 σ H1 Q I1 q1
end
end L2
namespace L2
open PySem PySem.Spec PyProof.Rows
def SqL (K : PySem.W.Frag) (H : Hp) (a : Addr) (xs : List V) : Prop :=
  Rd H a (.lst xs) ∨
    ∃ (o : Obj) (its : Array Value) (n : Nat), K.lookup a = some o ∧ o.cls = .type "list" ∧ o.dict = none ∧ o.data = .seq its n ∧ its.size ≤ sizeLine ∧ Vals xs its.toList
def SqT (K : PySem.W.Frag) (H : Hp) (a : Addr) (xs : List V) : Prop :=
  Rd H a (.tup xs) ∨
    ∃ (o : Obj) (its : Array Value) (n : Nat), K.lookup a = some o ∧ o.cls = .type "tuple" ∧ o.data = .seq its n ∧ its.size ≤ sizeLine ∧ Vals xs its.toList
def absV : Value → Option V
  | .none => some .non
  | .bool b => some (.bl b)
  | .int i _ => some (.int i)
  | .str x _ => some (.str x)
  | .bytes b _ => some (.byt b)
  | .float b _ => some (.flt b)
  | .ref a => some (.ref a)
  | .type n => some (.ty n)
  | _ => none
theorem RelV.abs {x : V} {u : Value} (r : RelV x u) : absV u = some x := by
  cases x with
  | non => cases r; rfl
  | bl _ => cases r; rfl
  | int _ => obtain ⟨t, rfl⟩ := r; rfl
  | str _ => obtain ⟨t, rfl⟩ := r; rfl
  | byt _ => obtain ⟨t, rfl⟩ := r; rfl
  | flt _ => obtain ⟨t, rfl⟩ := r; rfl
  | ref _ => cases r; rfl
  | ty _ => cases r; rfl
theorem RelV.inj {x y : V} {u : Value} (r : RelV x u) (q : RelV y u) : x = y := Option.some.inj (r.abs.symm.trans q.abs)
theorem Vals.inj : ∀ {xs ys : List V} {us : List Value}, Vals xs us → Vals ys us → xs = ys
  | _, _, _, .nil, .nil => rfl
  | _, _, _, .cons r t, .cons r' t' => by rw [r.inj r', Vals.inj t t']
section
variable {X : Cx} {pins : List (Addr × Obj)} {σ : St} {H : Hp} {s : Shared} {a : Addr} {xs ys : List V}
theorem SqL.of {K : PySem.W.Frag} (h : H a = some (.lst xs)) : SqL K H a xs := .inl (.inl h)
theorem SqT.of {K : PySem.W.Frag} (h : H a = some (.tup xs)) : SqT K H a xs := .inl (.inl h)
theorem Inv.list (I : Inv X pins σ H s) (h : SqL X.K H a xs) : ∃ its : List Value, Vals xs its ∧ PlainL s.heap a its.toArray ∧ xs.length ≤ sizeLine := by
  rcases h with h | ⟨o, its, n, hk, hc, hd, hs, hz, r⟩
  · obtain ⟨z, its, n, r, e⟩ := h.ok I.hok
    exact ⟨its, r, ⟨_, n, e, rfl, rfl, rfl⟩, z⟩
  · refine ⟨its.toList, r, ⟨o, n, I.kIn a o hk, hc, hd, by simpa using hs⟩, ?_⟩
    have e := r.length
    simp only [Array.length_toList] at e
    omega
theorem Inv.tuple (I : Inv X pins σ H s) (h : SqT X.K H a xs) : ∃ its : List Value, Vals xs its ∧ IsTup s.heap a its.toArray ∧ xs.length ≤ sizeLine := by
  rcases h with h | ⟨o, its, n, hk, hc, hs, hz, r⟩
  · obtain ⟨z, its, r, p⟩ := h.ok I.hok
    exact ⟨its, r, p, z⟩
  · refine ⟨its.toList, r, ⟨o, I.kIn a o hk, hc, n, by simpa using hs⟩, ?_⟩
    have e := r.length
    simp only [Array.length_toList] at e
    omega
theorem Inv.list_inj (I : Inv X pins σ H s) (h : SqL X.K H a xs) (h' : SqL X.K H a ys) : xs = ys := by
  obtain ⟨its, r, ⟨o, n, e, _, _, d⟩, _⟩ := I.list h
  obtain ⟨its', r', ⟨o', n', e', _, _, d'⟩, _⟩ := I.list h'
  rw [e] at e'; cases e'
  rw [d] at d'
  injection d' with d1 _
  have : its = its' := by simpa using congrArg Array.toList d1
  subst this
  exact r.inj r'
theorem Inv.tuple_inj (I : Inv X pins σ H s) (h : SqT X.K H a xs) (h' : SqT X.K H a ys) : xs = ys := by
  obtain ⟨its, r, ⟨o, e, _, n, d⟩, _⟩ := I.tuple h
  obtain ⟨its', r', ⟨o', e', _, n', d'⟩, _⟩ := I.tuple h'
  rw [e] at e'; cases e'
  rw [d] at d'
  injection d' with d1 _
  have : its = its' := by simpa using congrArg Array.toList d1
  subst this
  exact r.inj r'
end
abbrev Cx.wish (X : Cx) (E : Value → Shared → Prop) : Cx := { X with xe := E }
abbrev Cx.nox (X : Cx) : Cx := X.wish fun _ _ => False
theorem Cx.Ok.wish {X : Cx} (ok : X.Ok) (E : Value → Shared → Prop) : (X.wish E).Ok :=
  ⟨ok.mod, ok.kind, ok.glob, ok.blt, ok.above, ok.inj, ok.has, ok.cab, ok.hd, ok.frames, ok.stk, ok.exf, ok.bs, ok.bsz, ok.noex, ok.exfs, ok.funs, ok.frf⟩
theorem Cx.Ok.unwish {X : Cx} {E : Value → Shared → Prop} (ok : (X.wish E).Ok) : X.Ok :=
  ⟨ok.mod, ok.kind, ok.glob, ok.blt, ok.above, ok.inj, ok.has, ok.cab, ok.hd, ok.frames, ok.stk, ok.exf, ok.bs, ok.bsz, ok.noex, ok.exfs, ok.funs, ok.frf⟩
section
variable {X : Cx} {pins : List (Addr × Obj)} {σ : St} {H : Hp} {s : Shared} {E : Value → Shared → Prop}
theorem Inv.wish (I : Inv X pins σ H s) (E : Value → Shared → Prop) : Inv (X.wish E) pins σ H s := ⟨I.ok.wish E, I.os, I.bare, I.base, I.loc, I.cell, I.free, I.freeC, I.pin, I.hok, I.len⟩
theorem Inv.unwish (I : Inv (X.wish E) pins σ H s) : Inv X pins σ H s := ⟨I.ok.unwish, I.os, I.bare, I.base, I.loc, I.cell, I.free, I.freeC, I.pin, I.hok, I.len⟩
theorem SP.unwish {D : Ends} {f : Flow} {s' : Shared} (h : SP (X.wish E) pins D f s') : SP X pins D f s' := by
  cases f with
  | next => obtain ⟨σ', H', I, q⟩ := h; exact ⟨σ', H', I.unwish, q⟩
  | brk => obtain ⟨σ', H', I, q⟩ := h; exact ⟨σ', H', I.unwish, q⟩
  | cont => obtain ⟨σ', H', I, q⟩ := h; exact ⟨σ', H', I.unwish, q⟩
  | ret u => obtain ⟨v, σ', H', I, r, q⟩ := h; exact ⟨v, σ', H', I.unwish, r, q⟩
theorem PE.nox {e : Expr} {t : TE} (h : PE X.nox e t) : PE X e t := fun pins s σ H Q I hw =>
  wpAny_mono (h pins s σ H Q (I.wish _) hw) (fun _ _ ⟨v, H', I', r, q⟩ => ⟨v, H', I'.unwish, r, q⟩) fun _ _ z => False.elim z
theorem PT.nox {e : Expr} {t : TT} (h : PT X.nox e t) : PT X e t := fun pins s σ H Q I hw =>
  wpAny_mono (h pins s σ H Q (I.wish _) hw) (fun _ _ ⟨H', I', q⟩ => ⟨H', I'.unwish, q⟩) fun _ _ z => False.elim z
theorem PSs.nox {st : List Stmt} {t : TS} (h : PSs X.nox st t) : PSs X st t := fun pins s σ H D I hw =>
  wpAny_mono (h pins s σ H D (I.wish _) hw) (fun _ _ q => q.unwish) fun _ _ z => False.elim z
end
section
variable {X : Cx} {st : Stmt} {rest : List Stmt} {t u : TS} {e : Expr} {te : TE} {pos : Pos}
def tNext : TS := fun D σ H => D.nx σ H
def tSeq (t u : TS) : TS := fun D σ H => t { D with nx := u D } σ H
theorem pss_nil : PSs X [] tNext := fun _ _ σ H _ I h => wpAny_execs_nil ⟨σ, H, I, h⟩
theorem pss_cons (h1 : PS X st t) (h2 : PSs X rest u) : PSs X (st :: rest) (tSeq t u) := by
  intro pins s σ H D I h
  refine wpAny_execs_cons (thn (h1 pins s σ H { D with nx := u D } I h) fun f s1 q => ?_)
  cases f with
  | next =>
    obtain ⟨σ', H', I', q⟩ := q
    exact h2 pins s1 σ' H' D I' q
  | ret v => exact q
  | brk => exact q
  | cont => exact q
theorem pss_one (h1 : PS X st t) : PSs X [st] t := by
  intro pins s σ H D I h
  refine wpAny_execs_cons (thn (h1 pins s σ H D I h) fun f s1 q => ?_)
  cases f with
  | next => exact wpAny_execs_nil q
  | ret v => exact q
  | brk => exact q
  | cont => exact q
theorem Inv.quiet {pins : List (Addr × Obj)} {σ : St} {H : Hp} {s : Shared} (I : Inv X pins σ H s) : interactive X.env = false := by simp [interactive, I.ok.kind]
def tDrop (te : TE) : TS := fun D σ H => te σ H fun _ H1 => D.nx σ H1
theorem ps_expr (he : PE X e te) (hs : swapsWith e none pos.line X.env = pure false := by rfl) : PS X (.Expr e pos) (tDrop te) := by
  intro pins s σ H D I h
  exact wpAny_Expr_any (thn (he pins s σ H _ I h) fun v s1 ⟨x, H1, I1, r1, q1⟩ => ⟨σ, H1, I1, q1⟩) I.quiet hs
def tRet (te : TE) : TS := fun D σ H => te σ H D.rt
theorem ps_ret (he : PE X e te) : PS X (.Return (some e) pos) (tRet te) := by
  intro pins s σ H D I h
  exact wpAny_Return_some (thn (he pins s σ H _ I h) fun v s1 ⟨x, H1, I1, r1, q1⟩ => ⟨x, σ, H1, I1, r1, q1⟩)
def tRetN : TS := fun D _ H => D.rt .non H
def tIfS (c : TT) (t u : TS) : TS := fun D σ H => c σ H fun b H1 => if b = true then t D σ H1 else u D σ H1
theorem ps_if {c : Expr} {a b : List Stmt} {tc : TT} (hc : PT X c tc) (ha : PSs X a t) (hb : PSs X b u) : PS X (.If c a b pos) (tIfS tc t u) := by
  intro pins s σ H D I h
  refine wpAny_If (thn (hc pins s σ H _ I h) fun d s1 ⟨H1, I1, q1⟩ => ?_)
  cases d with
  | true => exact ha pins s1 σ H1 D I1 q1
  | false => exact hb pins s1 σ H1 D I1 q1
def tNever : TS := fun _ _ _ => False
end
abbrev TG := V → St → Hp → (St → Hp → Prop) → Prop
abbrev TGs := List V → St → Hp → (St → Hp → Prop) → Prop
def PG (X : Cx) (target : Expr) (t : TG) : Prop :=
  ∀ (pins : List (Addr × Obj)) (s : Shared) (σ : St) (H : Hp) (v : V) (u : Value) (Q : St → Hp → Prop), Inv X pins σ H s → RelV v u → t v σ H Q →
    wpAny (model X.prog X.w) X.A (assign target X.env u) (fun _ s' => ∃ σ' H', Inv X pins σ' H' s' ∧ Q σ' H') X.xe s
def PGs (X : Cx) (ts : List Expr) (t : TGs) : Prop :=
  ∀ (pins : List (Addr × Obj)) (s : Shared) (σ : St) (H : Hp) (vs : List V) (us : List Value) (Q : St → Hp → Prop), Inv X pins σ H s → Vals vs us → t vs σ H Q →
    wpAny (model X.prog X.w) X.A (assignInOrder ((assignEach ts X.env).map (·.2)) us) (fun _ s' => ∃ σ' H', Inv X pins σ' H' s' ∧ Q σ' H') X.xe s
abbrev TSet := V → V → V → Hp → (Hp → Prop) → Prop
section
variable {X : Cx} {pos : Pos}
def gName (i : Nat) : TG := fun v σ H Q => Q (σ.set i (some v)) H
theorem pg_name {i : Nat} {x : Str} (hN : X.N.Nodup) (hi : X.N[i]? = some x) (hx : Loc X.env.scope x) (hf : X.fn x = true ∨ X.env.scope.names.lookup x = some .local := by first | exact .inl rfl | exact .inr rfl | assumption) : PG X (.Name x pos) (gName i) := by
  intro pins s σ H v u Q I r h
  exact wpAny_assign_Name (store_ok I hN hi hx r (fun s' I' => ⟨_, H, I', h⟩) hf)
def gNil : TGs := fun vs σ H Q => vs = [] ∧ Q σ H
def gCons (t : TG) (u : TGs) : TGs := fun vs σ H Q => ∃ v r, vs = v :: r ∧ t v σ H fun σ' H' => u r σ' H' Q
theorem pgs_nil : PGs X [] gNil := by
  intro pins s σ H vs us Q I r h
  obtain ⟨e, h⟩ := h
  subst e
  cases r
  exact assignInOrder_nil ⟨σ, H, I, h⟩
theorem pgs_cons {e : Expr} {es : List Expr} {t : TG} {u : TGs} (h1 : PG X e t) (h2 : PGs X es u)
    (hs : (assignEach (e :: es) X.env).map (·.2) = assign e X.env :: (assignEach es X.env).map (·.2) := by rfl) : PGs X (e :: es) (gCons t u) := by
  intro pins s σ H vs us Q I r h
  obtain ⟨v, vr, e1, h⟩ := h
  subst e1
  cases r with
  | cons r rr =>
    rw [hs]
    refine assignInOrder_cons (thn (h1 pins s σ H _ _ _ I r h) fun _ s1 ⟨σ1, H1, I1, q1⟩ => ?_)
    exact h2 pins s1 σ1 H1 _ _ Q I1 rr q1
def gTup (K : PySem.W.Frag) (n : Nat) (t : TGs) : TG := fun v σ H Q => ∃ a xs, v = .ref a ∧ SqT K H a xs ∧ xs.length = n ∧ t xs σ H Q
theorem pg_tup {es : List Expr} {k : Nat} {t : TGs} {n : Nat} (hc : X.calm = true) (h : PGs X es t)
    (hn : (assignEach es X.env).length = n := by rfl) (hst : (assignEach es X.env).findIdx? (·.1) = none := by rfl) : PG X (.Tuple es k pos) (gTup X.K n t) := by
  intro pins s σ H v u Q I r hw
  obtain ⟨a, xs, e1, hq, hl, hw⟩ := hw
  subst e1
  cases r
  obtain ⟨its, rv, ht, hz⟩ := I.tuple hq
  refine assign_Tuple_tuple (I.ok.hd hc) ht (by simp [hn, ← hl, rv.length]) hst fun h' hx => ?_
  have I1 : Inv X pins σ H { s with heap := h' } := I.kept (t' := s.toks) fun b o e => hx b o (Nat.ne_of_lt (Heap.lt_size e)) e
  exact h pins _ σ H xs _ Q I1 (by simpa using rv) hw
def gSub (to ti : TE) (t : TSet) : TG := fun v σ H Q => to σ H fun o H1 => ti σ H1 fun i H2 => t o i v H2 fun H3 => Q σ H3
def tAsg (te : TE) (g : TG) : TS := fun D σ H => te σ H fun x H1 => g x σ H1 D.nx
theorem ps_set {i : Nat} {x : Str} {e : Expr} {te : TE} {pos' : Pos} (hN : X.N.Nodup) (hi : X.N[i]? = some x) (hx : Loc X.env.scope x) (he : PE X e te) (hs : swapsWith e (some (.Name x pos')) pos.line X.env = pure false := by rfl) (hf : X.fn x = true ∨ X.env.scope.names.lookup x = some .local := by first | exact .inl rfl | exact .inr rfl | assumption) :
    PS X (.Assign [.Name x pos'] e pos) (tAsg te (gName i)) := by
  intro pins s σ H D I h
  refine wpAny_Assign_Name (thn (he pins s σ H _ I h) fun v s1 ⟨y, H1, I1, r1, q1⟩ => ?_) hs
  exact store_ok I1 hN hi hx r1 (fun s2 I2 => ⟨_, H1, I2, q1⟩) hf
end
section
variable {X : Cx} {pos : Pos}
def tWhile (c : TT) (tb : TS) : TS := fun D σ H => ∃ W : Nat → St → Hp → Prop, (∃ m, W m σ H) ∧ ∀ m σ H, W m σ H →
  c σ H fun b H1 => if b = true then ∃ N : St → Hp → Prop, (∀ σ' H', N σ' H' → ∃ m', m' < m ∧ W m' σ' H') ∧ tb { D with nx := N, ct := N, bk := D.nx } σ H1 else D.nx σ H1
theorem ps_while {c : Expr} {body : List Stmt} {tc : TT} {tb : TS} (hp : PassesOwn (model X.prog X.w) X.A X.env X.xe) (hc : PT X c tc) (hb : PSs X body tb) : PS X (.While c body [] pos) (tWhile tc tb) := by
  intro pins s σ H D I h
  obtain ⟨W, ⟨m0, w0⟩, turn⟩ := h
  refine wpAny_While (codeAny_whileLoop (fun n s' => ∃ σ' H', Inv X pins σ' H' s' ∧ W n σ' H') ?_ m0 ⟨σ, H, I, w0⟩)
  rintro n s1 ⟨σ1, H1, I1, w1⟩
  refine wpAny_passesOwn hp (thn (hc pins s1 σ1 H1 _ I1 (turn n σ1 H1 w1)) fun b s2 ⟨H2, I2, q2⟩ => ?_)
  cases b with
  | true =>
    obtain ⟨N, hN, q2⟩ := q2
    rw [if_pos rfl]
    refine wpAny_passesOwn hp (thn (hb pins s2 σ1 H2 _ I2 q2) fun f s3 q3 => ?_)
    cases f with
    | next =>
      obtain ⟨σ3, H3, I3, n3⟩ := q3
      obtain ⟨m', hm, w3⟩ := hN σ3 H3 n3
      exact ⟨m', hm, σ3, H3, I3, w3⟩
    | cont =>
      obtain ⟨σ3, H3, I3, n3⟩ := q3
      obtain ⟨m', hm, w3⟩ := hN σ3 H3 n3
      exact ⟨m', hm, σ3, H3, I3, w3⟩
    | brk => exact q3
    | ret v => exact q3
  | false =>
    rw [if_neg Bool.false_ne_true]
    exact wpAny_execs_nil ⟨σ1, H2, I2, q2⟩
end
structure It where
  go : Nat → Hp → Prop
  yld : Nat → Hp → V → Hp → Prop
  stop : Nat → Hp → Prop
def FpOk (X : Cx) (pins : List (Addr × Obj)) (H : Hp) (b : Addr) : Prop :=
  H b = none ∧ b ≠ X.env.locals ∧ b ∉ X.fs ∧ (b ∈ X.ex ∨ X.s₀.heap.objs.size ≤ b) ∧ (∀ x c, X.env.cells.lookup x = some c → c ≠ b) ∧ ∀ p ∈ X.pn ++ pins, p.1 ≠ b
theorem Inv.fpOk {X : Cx} {pins : List (Addr × Obj)} {σ : St} {H H' : Hp} {s : Shared} {b : Addr} (I : Inv X pins σ H s) (hb : s.heap.objs.size ≤ b) (hn : H' b = none) : FpOk X pins H' b := by
  refine ⟨hn, Nat.ne_of_gt (Nat.lt_of_lt_of_le I.lt hb), I.nofs hb, .inr (Nat.le_trans I.sz hb), fun x c e z => ?_, fun p hp z => ?_⟩
  · obtain ⟨v, q⟩ := I.cell x c e
    exact absurd (Nat.lt_of_lt_of_le q.lt (by rw [z]; exact hb)) (Nat.lt_irrefl _)
  · exact absurd (Nat.lt_of_lt_of_le (Heap.lt_size (I.pin p hp).1) (by rw [z]; exact hb)) (Nat.lt_irrefl _)
structure Turn (P : Program) (w : World) (K : PySem.W.Frag) (tg : Expr) (J : It) (fp : List Addr) (it : Addr) (tn : Nat → Heap → Prop) : Prop where
  mem : it ∈ fp
  obj : ∀ i h, tn i h → ∀ b ∈ fp, ∃ o, h.get? b = some o ∧ ∀ v, o.data ≠ .cell v
  keep : ∀ i h h', tn i h → (∀ b ∈ fp, ∀ o, h.get? b = some o → h'.get? b = some o) → tn i h'
  item : ∀ (X : Cx), X.prog = P → X.w = w → X.K = K → X.calm = true → ∀ (i : Nat) (pins : List (Addr × Obj)) (s : Shared) (σ : St) (H : Hp) (E : Value → Shared → Prop), Inv X pins σ H s → (∀ b ∈ fp, FpOk X pins H b) → tn i s.heap → J.go i H →
    wpAny (model P w) X.A (pyNext (.ref it)) (fun r s1 => ∃ u, r = some u ∧
      wpAny (model P w) X.A (letOwnedTupleGo tg (.ref it) u) (fun _ s2 => ∃ x H', Inv X pins σ H' s2 ∧ RelV x u ∧ J.yld i H x H' ∧ tn (i + 1) s2.heap ∧ ∀ b ∈ fp, H' b = none) E s1) E s
  done : ∀ (X : Cx), X.prog = P → X.w = w → X.K = K → X.calm = true → ∀ (i : Nat) (pins : List (Addr × Obj)) (s : Shared) (σ : St) (H : Hp) (E : Value → Shared → Prop), Inv X pins σ H s → (∀ b ∈ fp, FpOk X pins H b) → tn i s.heap → J.stop i H →
    wpAny (model P w) X.A (pyNext (.ref it)) (fun r s1 => r = none ∧ Inv X pins σ H s1) E s
  self : ∀ (A : Around) (i : Nat) (s : Shared) (Q : Value → Shared → Prop) (E : Value → Shared → Prop), tn i s.heap → Q (.ref it) s → wpAny (model P w) A (pyIter (.ref it)) Q E s
abbrev TI := St → Hp → (It → Hp → Prop) → Prop
def PIE (X : Cx) (pins : List (Addr × Obj)) (σ : St) (tg : Expr) (R : It → Hp → Prop) (itv : Value) (s2 : Shared) : Prop :=
  ∃ (it : Addr) (fp : List Addr) (tn : Nat → Heap → Prop) (J : It) (H' : Hp), itv = .ref it ∧ Inv X pins σ H' s2 ∧ Turn X.prog X.w X.K tg J fp it tn ∧ tn 0 s2.heap ∧ (∀ b ∈ fp, FpOk X pins H' b) ∧ R J H'
def PI (X : Cx) (tg iter : Expr) (wi : TI) : Prop :=
  ∀ (pins : List (Addr × Obj)) (s : Shared) (σ : St) (H : Hp) (R : It → Hp → Prop), Inv X pins σ H s → wi σ H R →
    wpAny (model X.prog X.w) X.A (eval iter X.env) (fun v s1 => wpAny (model X.prog X.w) X.A (pyIter v) (PIE X pins σ tg R) X.xe s1) X.xe s
theorem go_of {M : Model} {A : Around} {E : Value → Shared → Prop} {s : Shared} {tg : Expr} {it : Addr} {u : Value} {o : Obj} {n : String} {vs : Array Value} {Q : Unit → Shared → Prop} (ho : s.heap.get? it = some o) (hc : o.cls = .type n) (hd : o.data = .fields vs)
    (hn : ["enumerate", "zip", "dict_itemiterator", "dict_reverseitemiterator", "odict_iterator", "itertools.zip_longest", "itertools.pairwise"].contains n = false) (hQ : Q () s) : wpAny M A (letOwnedTupleGo tg (.ref it) u) Q E s := by
  unfold letOwnedTupleGo
  cases tg <;> first
    | exact wpAny_pure hQ
    | (cases u <;> first
        | exact wpAny_pure hQ
        | (refine wpAny_bind (wpAny_load ho ?_)
           rw [hc, hd]
           show wpAny M A (if (["enumerate", "zip", "dict_itemiterator", "dict_reverseitemiterator", "odict_iterator", "itertools.zip_longest", "itertools.pairwise"].contains n && vs[0]? == some (rawInt _)) = true then _ else _) Q E s
           rw [if_neg (by intro h; rw [hn, Bool.false_and] at h; cases h)]
           exact wpAny_pure hQ))
def Itl (K : PySem.W.Frag) (a : Addr) : It :=
  ⟨fun i H => ∃ xs x, SqL K H a xs ∧ xs[i]? = some x, fun i H x H' => H' = H ∧ ∀ xs, SqL K H a xs → xs[i]? = some x, fun i H => ∃ xs, SqL K H a xs ∧ xs.length ≤ i⟩
def Itt (K : PySem.W.Frag) (a : Addr) : It :=
  ⟨fun i H => ∃ xs x, SqT K H a xs ∧ xs[i]? = some x, fun i H x H' => H' = H ∧ ∀ xs, SqT K H a xs → xs[i]? = some x, fun i H => ∃ xs, SqT K H a xs ∧ xs.length ≤ i⟩
def Itr (lo : Int) (n : Nat) : It := ⟨fun i _ => i < n, fun i H x H' => H' = H ∧ x = .int (lo + i), fun i _ => n ≤ i⟩
theorem turn_list {P : Program} {w : World} {K : PySem.W.Frag} {tg : Expr} (a it : Addr) : Turn P w K tg (Itl K a) [it] it (fun i h => h.IsListIter it a i) where
  mem := by simp
  obj := fun i h st b hb => by
    have e : b = it := by simpa using hb
    subst e
    obtain ⟨o, e, c, d⟩ := st
    exact ⟨o, e, fun v z => by rw [d] at z; cases z⟩
  keep := fun i h h' st k => st.at fun o e => k it (by simp) o e
  item := by
    intro X hP hw hK hc i pins s σ H E I hf st hg
    subst hP hw hK
    obtain ⟨xs, x, hq, hx⟩ := hg
    obtain ⟨its, rv, p, hz⟩ := I.list hq
    obtain ⟨u, hu, ru⟩ := rv.get hx
    obtain ⟨f0, f1, f2, f3, f4, f5⟩ := hf it (by simp)
    refine wpAny_pyNext_list_item st p.isList (x := u) (by simpa using hu) fun h' st' sb => ?_
    have I1 : Inv X pins σ H { s with heap := h' } := I.turned (t' := s.toks) (fun b o hb e => (sb.2 b hb).trans e) f0 f1 f3 f4 f5
    obtain ⟨o, e, c, d⟩ := id st'
    exact ⟨u, rfl, go_of (s := { s with heap := h' }) e c d (by decide) ⟨x, H, I1, ru, ⟨rfl, fun ys hy => by rw [I.list_inj hy hq]; exact hx⟩, st', fun b hb => (hf b hb).1⟩⟩
  done := by
    intro X hP hw hK hc i pins s σ H E I hf st hg
    subst hP hw hK
    obtain ⟨xs, hq, hx⟩ := hg
    obtain ⟨its, rv, p, hz⟩ := I.list hq
    obtain ⟨f0, f1, f2, f3, f4, f5⟩ := hf it (by simp)
    have hl := rv.length
    exact wpAny_pyNext_list_end (I.ok.hd hc) st p.isList (by simp; omega) fun h' eb => ⟨rfl, I.turned (t' := s.toks) (fun b o hb e => eb b o hb e) f0 f1 f3 f4 f5⟩
  self := fun _ _ _ _ _ st h => wpAny_pyIter_listiter st h
theorem turn_tuple {P : Program} {w : World} {K : PySem.W.Frag} {tg : Expr} (a it : Addr) : Turn P w K tg (Itt K a) [it] it (fun i h => h.IsTupleIter it a i) where
  mem := by simp
  obj := fun i h st b hb => by
    have e : b = it := by simpa using hb
    subst e
    obtain ⟨o, e, c, d⟩ := st
    exact ⟨o, e, fun v z => by rw [d] at z; cases z⟩
  keep := fun i h h' st k => st.at fun o e => k it (by simp) o e
  item := by
    intro X hP hw hK hc i pins s σ H E I hf st hg
    subst hP hw hK
    obtain ⟨xs, x, hq, hx⟩ := hg
    obtain ⟨its, rv, p, hz⟩ := I.tuple hq
    obtain ⟨u, hu, ru⟩ := rv.get hx
    obtain ⟨f0, f1, f2, f3, f4, f5⟩ := hf it (by simp)
    refine wpAny_pyNext_tuple_item st (show s.heap.IsTuple a its.toArray from p) (x := u) (by simpa using hu) fun h' st' sb => ?_
    have I1 : Inv X pins σ H { s with heap := h' } := I.turned (t' := s.toks) (fun b o hb e => (sb.2 b hb).trans e) f0 f1 f3 f4 f5
    obtain ⟨o, e, c, d⟩ := id st'
    exact ⟨u, rfl, go_of (s := { s with heap := h' }) e c d (by decide) ⟨x, H, I1, ru, ⟨rfl, fun ys hy => by rw [I.tuple_inj hy hq]; exact hx⟩, st', fun b hb => (hf b hb).1⟩⟩
  done := by
    intro X hP hw hK hc i pins s σ H E I hf st hg
    subst hP hw hK
    obtain ⟨xs, hq, hx⟩ := hg
    obtain ⟨its, rv, p, hz⟩ := I.tuple hq
    obtain ⟨f0, f1, f2, f3, f4, f5⟩ := hf it (by simp)
    have hl := rv.length
    exact wpAny_pyNext_tuple_end (I.ok.hd hc) st (show s.heap.IsTuple a its.toArray from p) (by simp; omega) fun h' eb => ⟨rfl, I.turned (t' := s.toks) (fun b o hb e => eb b o hb e) f0 f1 f3 f4 f5⟩
  self := fun _ _ _ _ _ st h => wpAny_pyIter_tupleiter st h
theorem turn_range {P : Program} {w : World} {K : PySem.W.Frag} {tg : Expr} (it : Addr) (lo : Int) (n : Nat) : Turn P w K tg (Itr lo n) [it] it (fun i h => IsRangeIter h it (lo + (i : Nat) * 1) ((n : Int) - (i : Nat)) 1) where
  mem := by simp
  obj := fun i h st b hb => by
    have e : b = it := by simpa using hb
    subst e
    exact ⟨_, st, fun v z => by
      have z' : Data.fields _ = Data.cell v := z
      cases z'⟩
  keep := fun i h h' st k => k it (by simp) _ st
  item := by
    intro X hP hw hK hc i pins s σ H E I hf st hg
    subst hP hw hK
    obtain ⟨f0, f1, f2, f3, f4, f5⟩ := hf it (by simp)
    have W := Walks.range (prog := X.prog) (w := X.w) (I.ok.hd hc) it lo 1 n
    refine W.item i s _ _ hg st fun v h' tk hv st' kk => ?_
    obtain ⟨t, rfl⟩ := hv
    have I1 : Inv X pins σ H { s with heap := h', toks := tk } := I.turned (fun b o hb e => kk b o (by simpa using hb) e) f0 f1 f3 f4 f5
    refine ⟨_, rfl, go_of (s := { s with heap := h', toks := tk }) (n := "range_iterator") st' rfl rfl (by decide) ⟨.int (lo + i), H, I1, ⟨t, ?_⟩, ⟨rfl, rfl⟩, st', fun b hb => (hf b hb).1⟩⟩
    rw [Int.mul_one]
  done := by
    intro X hP hw hK hc i pins s σ H E I hf st hg
    subst hP hw hK
    obtain ⟨f0, f1, f2, f3, f4, f5⟩ := hf it (by simp)
    exact wpAny_pyNext_range_end (I.ok.hd hc) st (by have : n ≤ i := hg; omega) fun h' eb => ⟨rfl, I.turned (t' := s.toks) (fun b o hb e => eb b o hb e) f0 f1 f3 f4 f5⟩
  self := fun _ _ _ _ _ st h => wpAny_pyIter_rangeiter st h
end L2
namespace L2
open PySem PySem.Spec PyProof.Rows
section
variable {X : Cx} {tg : Expr}
def iList (K : PySem.W.Frag) (tl : TE) : TI := fun σ H R => tl σ H fun x H1 => ∃ a, x = .ref a ∧ (∃ xs, SqL K H1 a xs) ∧ R (Itl K a) H1
def iTup (K : PySem.W.Frag) (tl : TE) : TI := fun σ H R => tl σ H fun x H1 => ∃ a, x = .ref a ∧ (∃ xs, SqT K H1 a xs) ∧ R (Itt K a) H1
theorem pi_list {l : Expr} {tl : TE} (hl : PE X l tl) : PI X tg l (iList X.K tl) := by
  intro pins s σ H R I h
  refine thn (hl pins s σ H _ I h) fun v s1 ⟨x, H1, I1, r1, q1⟩ => ?_
  obtain ⟨a, e, ⟨xs, hq⟩, q⟩ := q1
  subst e
  cases r1
  obtain ⟨its, rv, p, hz⟩ := I1.list hq
  refine wpAny_pyIter_list p.isList ?_
  refine ⟨s1.heap.objs.size, [s1.heap.objs.size], _, _, H1, rfl, I1.kept (t' := s1.toks) fun b o e => Heap.get?_push_of_some _ e, turn_list a _, ⟨_, Heap.get?_push_size _ rfl, rfl, rfl⟩, fun b hb => ?_, q⟩
  have e : b = s1.heap.objs.size := by simpa using hb
  subst e
  exact I1.fpOk (Nat.le_refl _) (I1.hok.fresh (Nat.le_refl _))
theorem pi_tup {l : Expr} {tl : TE} (hl : PE X l tl) : PI X tg l (iTup X.K tl) := by
  intro pins s σ H R I h
  refine thn (hl pins s σ H _ I h) fun v s1 ⟨x, H1, I1, r1, q1⟩ => ?_
  obtain ⟨a, e, ⟨xs, hq⟩, q⟩ := q1
  subst e
  cases r1
  obtain ⟨its, rv, p, hz⟩ := I1.tuple hq
  refine wpAny_pyIter_tuple (show s1.heap.IsTuple a its.toArray from p) ?_
  refine ⟨s1.heap.objs.size, [s1.heap.objs.size], _, _, H1, rfl, I1.kept (t' := s1.toks) fun b o e => Heap.get?_push_of_some _ e, turn_tuple a _, ⟨_, Heap.get?_push_size _ rfl, rfl, rfl⟩, fun b hb => ?_, q⟩
  have e : b = s1.heap.objs.size := by simpa using hb
  subst e
  exact I1.fpOk (Nat.le_refl _) (I1.hok.fresh (Nat.le_refl _))
theorem range_it {pins : List (Addr × Obj)} {σ : St} {H : Hp} {s : Shared} {R : It → Hp → Prop} {E : Value → Shared → Prop} {lo hi : Int} {t u v : Tok} {tk : Nat} (I : Inv X pins σ H s) (h1 : -(2 ^ 62) ≤ lo) (h2 : lo < 2 ^ 62) (h3 : -(2 ^ 62) ≤ hi) (h4 : hi < 2 ^ 62)
    (q : R (Itr lo (hi - lo).toNat) H) : wpAny (model X.prog X.w) X.A (pyIter (.ref s.heap.objs.size)) (PIE X pins σ tg R) E { s with heap := s.heap.push { cls := .type "range", data := .fields #[.int lo t, .int hi u, .int 1 v] }, toks := tk } := by
  refine wpAny_pyIter_range (IsRange.new ..) (small_one h1 h2 h3 h4) ?_
  have I1 : Inv X pins σ H { s with heap := s.heap.push { cls := .type "range", data := .fields #[.int lo t, .int hi u, .int 1 v] }, toks := tk } := I.kept fun b o e => Heap.get?_push_of_some _ e
  refine ⟨(s.heap.push { cls := .type "range", data := .fields #[.int lo t, .int hi u, .int 1 v] }).objs.size, [(s.heap.push { cls := .type "range", data := .fields #[.int lo t, .int hi u, .int 1 v] }).objs.size], _, _, H, rfl,
    I1.kept (t' := tk) fun b o e => Heap.get?_push_of_some _ e, turn_range _ lo (hi - lo).toNat, ?_, fun b hb => ?_, q⟩
  · have e1 : lo + ((0 : Nat) : Int) * 1 = lo := by simp
    have e2 : (((hi - lo).toNat : Nat) : Int) - ((0 : Nat) : Int) = Builtin.Range.rangeSize lo hi 1 := by rw [rangeSize_one]; split <;> omega
    show IsRangeIter _ _ (lo + ((0 : Nat) : Int) * 1) ((((hi - lo).toNat : Nat) : Int) - ((0 : Nat) : Int)) 1
    rw [e1, e2]
    exact Heap.get?_push_size _ rfl
  · have e : b = (s.heap.push { cls := .type "range", data := .fields #[.int lo t, .int hi u, .int 1 v] }).objs.size := by simpa using hb
    subst e
    exact I1.fpOk (Nat.le_refl _) (I1.hok.fresh (Nat.le_refl _))
def iRng1 (ta : TA) : TI := fun σ H R => ta σ H fun vs H1 => ∃ j : Int, vs = [.int j] ∧ -(2 ^ 62) ≤ j ∧ j < 2 ^ 62 ∧ R (Itr 0 j.toNat) H1
def iRng2 (ta : TA) : TI := fun σ H R => ta σ H fun vs H1 => ∃ i j : Int, vs = [.int i, .int j] ∧ (-(2 ^ 62) ≤ i ∧ i < 2 ^ 62 ∧ -(2 ^ 62) ≤ j ∧ j < 2 ^ 62) ∧ R (Itr i (j - i).toNat) H1
theorem pi_range1 {a : Expr} {ta : TA} {p pos : Pos} (hg : Gl X "range") (hm : X.mg "range" = none) (ha : PA X [a] ta) (hs : starEach [a] X.env = [(false, eval a X.env)] := by rfl) : PI X tg (.Call (.Name "range" p) [a] [] pos) (iRng1 ta) := by
  intro pins s σ H R I h
  refine Call_ (ld_blt I hg hm boot_range (PyProof.Rows.callWith_type1 (thn (ha pos pins s σ H _ I h) fun us s1 ⟨vs, H1, I1, r1, q1⟩ => ?_) hs rfl))
  obtain ⟨j, e, q1, q2, q⟩ := q1
  subst e
  cases r1 with
  | cons r rr =>
    cases rr
    obtain ⟨t, rfl⟩ := r
    exact call_range_1 (range_it I1 (by omega) (by omega) q1 q2 (by simpa using q))
def tFor (wi : TI) (g : TG) (tb : TS) : TS := fun D σ H => wi σ H fun J H1 => ∃ W : Nat → Nat → St → Hp → Prop, (∃ m, W 0 m σ H1) ∧ ∀ i m σ H, W i m σ H →
  (J.stop i H ∧ D.nx σ H) ∨ (J.go i H ∧ ∃ N : St → Hp → Prop, (∀ σ' H', N σ' H' → ∃ m', m' < m ∧ W (i + 1) m' σ' H') ∧ ∀ x H', J.yld i H x H' → g x σ H' fun σ2 H2 => tb { D with nx := N, ct := N, bk := D.nx } σ2 H2)
def pinsAt (fp : List Addr) (h : Heap) : List (Addr × Obj) := fp.filterMap fun b => (h.get? b).map fun o => (b, o)
theorem mem_pinsAt {fp : List Addr} {h : Heap} {b : Addr} {o : Obj} (hb : b ∈ fp) (e : h.get? b = some o) : (b, o) ∈ pinsAt fp h := List.mem_filterMap.mpr ⟨b, hb, by rw [e]; rfl⟩
theorem of_pinsAt {fp : List Addr} {h : Heap} {p : Addr × Obj} (hp : p ∈ pinsAt fp h) : p.1 ∈ fp ∧ h.get? p.1 = some p.2 := by
  obtain ⟨b, hb, e⟩ := List.mem_filterMap.mp hp
  cases q : h.get? b with
  | none => rw [q] at e; cases e
  | some o =>
    rw [q] at e
    have e' : (b, o) = p := Option.some.inj e
    subst e'
    exact ⟨hb, q⟩
theorem Inv.pinned {pins : List (Addr × Obj)} {σ : St} {H : Hp} {s : Shared} {fp : List Addr} (I : Inv X pins σ H s) (hf : ∀ b ∈ fp, FpOk X pins H b) (ho : ∀ b ∈ fp, ∃ o, s.heap.get? b = some o ∧ ∀ v, o.data ≠ .cell v) : Inv X (pins ++ pinsAt fp s.heap) σ H s :=
  I.pins_of fun p hp => (List.mem_append.mp hp).elim (fun z => I.pin p (List.mem_append_right _ z)) fun z => by
    obtain ⟨hb, e⟩ := of_pinsAt z
    obtain ⟨f0, f1, f2, _⟩ := hf p.1 hb
    obtain ⟨o, e', d⟩ := ho p.1 hb
    rw [e] at e'; cases e'
    exact ⟨e, f0, f1, f2, d⟩
theorem Inv.unpinned {pins pl : List (Addr × Obj)} {σ : St} {H : Hp} {s : Shared} (I : Inv X (pins ++ pl) σ H s) : Inv X pins σ H s := I.pins_of fun p hp => I.pin p (List.mem_append_right _ (List.mem_append_left _ hp))
theorem ps_for {iter : Expr} {body : List Stmt} {wi : TI} {g : TG} {tb : TS} {pos : Pos} (hp : PassesOwn (model X.prog X.w) X.A X.env X.xe) (hc : X.calm = true) (hi : PI X tg iter wi) (hg : PG X tg g) (hb : PSs X body tb)
    (hs : ∀ x, foldedSetIterable iter X.env x = pure x := by intro _; rfl) : PS X (.For tg iter body [] pos) (tFor wi g tb) := by
  intro pins s σ H D I h
  refine wpAny_For (thn (hi pins s σ H _ I h) fun v s1 h1 => thn h1 fun itv s2 h2 => ?_) hs
  obtain ⟨it, fp, tn, J, H2, e, I2, T, st2, f2, W, ⟨m0, w0⟩, turn⟩ := h2
  subst e
  have stat : ∀ {H' : Hp}, (∀ b ∈ fp, H' b = none) → ∀ b ∈ fp, FpOk X pins H' b := fun hn b hb => ⟨hn b hb, (f2 b hb).2⟩
  refine codeAny_forLoop_any (fun n s' => ∃ i σ' H', Inv X pins σ' H' s' ∧ tn i s'.heap ∧ (∀ b ∈ fp, H' b = none) ∧ W i n σ' H') ?_ m0 ⟨0, σ, H2, I2, st2, fun b hb => (f2 b hb).1, w0⟩
  rintro n s3 ⟨i, σ3, H3, I3, st3, fr3, w3⟩
  rcases turn i n σ3 H3 w3 with ⟨stop, qn⟩ | ⟨go, N, hN, step⟩
  · refine wpAny_passesOwn hp (thn (T.done X rfl rfl rfl hc i pins s3 σ3 H3 X.xe I3 (stat fr3) st3 stop) fun r s4 ⟨hr, I4⟩ => ?_)
    subst hr
    exact wpAny_execs_nil ⟨σ3, H3, I4, qn⟩
  · refine wpAny_passesOwn hp (thn (T.item X rfl rfl rfl hc i pins s3 σ3 H3 X.xe I3 (stat fr3) st3 go) fun r s4 ⟨u, hr, h4⟩ => ?_)
    subst hr
    refine wpAny_passesOwn hp (thn h4 fun _ s5 ⟨x, H5, I5, r5, y5, st5, fr5⟩ => ?_)
    have I5' := I5.pinned (stat fr5) (T.obj _ _ st5)
    refine wpAny_passesOwn hp (thn (hg _ s5 σ3 H5 x u _ I5' r5 (step x H5 y5)) fun _ s6 ⟨σ6, H6, I6, q6⟩ => ?_)
    refine wpAny_passesOwn hp (thn (hb _ s6 σ6 H6 _ I6 q6) fun f s7 q7 => ?_)
    have again : ∀ {σ7 : St} {H7 : Hp}, Inv X (pins ++ pinsAt fp s5.heap) σ7 H7 s7 → N σ7 H7 → ∃ m, m < n ∧ ∃ i σ' H', Inv X pins σ' H' s7 ∧ tn i s7.heap ∧ (∀ b ∈ fp, H' b = none) ∧ W i m σ' H' := fun {σ7 H7} I7 n7 => by
      obtain ⟨m', hm, w7⟩ := hN σ7 H7 n7
      refine ⟨m', hm, i + 1, σ7, H7, I7.unpinned, T.keep _ _ _ st5 fun b hb o e => (I7.pin (b, o) (List.mem_append_right _ (List.mem_append_right _ (mem_pinsAt hb e)))).1, fun b hb => ?_, w7⟩
      obtain ⟨o, e, d⟩ := T.obj _ _ st5 b hb
      exact (I7.pin (b, o) (List.mem_append_right _ (List.mem_append_right _ (mem_pinsAt hb e)))).2.1
    cases f with
    | next => obtain ⟨σ7, H7, I7, n7⟩ := q7; exact again I7 n7
    | cont => obtain ⟨σ7, H7, I7, n7⟩ := q7; exact again I7 n7
    | brk => obtain ⟨σ7, H7, I7, q7⟩ := q7; exact ⟨σ7, H7, I7.unpinned, q7⟩
    | ret v => obtain ⟨x7, σ7, H7, I7, r7, q7⟩ := q7; exact ⟨x7, σ7, H7, I7.unpinned, r7, q7⟩
end
theorem for_list {K : PySem.W.Frag} {a : Addr} {xs : List V} {g : TG} {tb : TS} {D : Ends} {σ : St} {H : Hp} (Pv : Nat → St → Hp → Prop) (h0 : Pv 0 σ H) (hl : ∀ i σ H, i ≤ xs.length → Pv i σ H → SqL K H a xs)
    (hs : ∀ i x σ H, xs[i]? = some x → Pv i σ H → g x σ H fun σ2 H2 => tb { D with nx := Pv (i + 1), ct := Pv (i + 1), bk := D.nx } σ2 H2) (hd : ∀ σ H, Pv xs.length σ H → D.nx σ H) :
    ∃ W : Nat → Nat → St → Hp → Prop, (∃ m, W 0 m σ H) ∧ ∀ i m σ H, W i m σ H →
      ((Itl K a).stop i H ∧ D.nx σ H) ∨ ((Itl K a).go i H ∧ ∃ N : St → Hp → Prop, (∀ σ' H', N σ' H' → ∃ m', m' < m ∧ W (i + 1) m' σ' H') ∧ ∀ x H', (Itl K a).yld i H x H' → g x σ H' fun σ2 H2 => tb { D with nx := N, ct := N, bk := D.nx } σ2 H2) := by
  refine ⟨fun i m σ H => m = xs.length - i ∧ i ≤ xs.length ∧ Pv i σ H, ⟨xs.length, by simp, Nat.zero_le _, h0⟩, ?_⟩
  rintro i m σ H ⟨rfl, hi, p⟩
  have q := hl i σ H hi p
  by_cases hlt : i < xs.length
  · refine .inr ⟨⟨xs, xs[i], q, by simp [hlt]⟩, Pv (i + 1), fun σ' H' p' => ⟨xs.length - (i + 1), by omega, rfl, hlt, p'⟩, fun x H' y => ?_⟩
    obtain ⟨e, y⟩ := y
    subst e
    exact hs i x σ _ (y xs q) p
  · have e : i = xs.length := by omega
    subst e
    exact .inl ⟨⟨xs, q, Nat.le_refl _⟩, hd σ H p⟩
theorem for_tup {K : PySem.W.Frag} {a : Addr} {xs : List V} {g : TG} {tb : TS} {D : Ends} {σ : St} {H : Hp} (Pv : Nat → St → Hp → Prop) (h0 : Pv 0 σ H) (hl : ∀ i σ H, i ≤ xs.length → Pv i σ H → SqT K H a xs)
    (hs : ∀ i x σ H, xs[i]? = some x → Pv i σ H → g x σ H fun σ2 H2 => tb { D with nx := Pv (i + 1), ct := Pv (i + 1), bk := D.nx } σ2 H2) (hd : ∀ σ H, Pv xs.length σ H → D.nx σ H) :
    ∃ W : Nat → Nat → St → Hp → Prop, (∃ m, W 0 m σ H) ∧ ∀ i m σ H, W i m σ H →
      ((Itt K a).stop i H ∧ D.nx σ H) ∨ ((Itt K a).go i H ∧ ∃ N : St → Hp → Prop, (∀ σ' H', N σ' H' → ∃ m', m' < m ∧ W (i + 1) m' σ' H') ∧ ∀ x H', (Itt K a).yld i H x H' → g x σ H' fun σ2 H2 => tb { D with nx := N, ct := N, bk := D.nx } σ2 H2) := by
  refine ⟨fun i m σ H => m = xs.length - i ∧ i ≤ xs.length ∧ Pv i σ H, ⟨xs.length, by simp, Nat.zero_le _, h0⟩, ?_⟩
  rintro i m σ H ⟨rfl, hi, p⟩
  have q := hl i σ H hi p
  by_cases hlt : i < xs.length
  · refine .inr ⟨⟨xs, xs[i], q, by simp [hlt]⟩, Pv (i + 1), fun σ' H' p' => ⟨xs.length - (i + 1), by omega, rfl, hlt, p'⟩, fun x H' y => ?_⟩
    obtain ⟨e, y⟩ := y
    subst e
    exact hs i x σ _ (y xs q) p
  · have e : i = xs.length := by omega
    subst e
    exact .inl ⟨⟨xs, q, Nat.le_refl _⟩, hd σ H p⟩
theorem for_range {lo : Int} {n : Nat} {g : TG} {tb : TS} {D : Ends} {σ : St} {H : Hp} (Pv : Nat → St → Hp → Prop) (h0 : Pv 0 σ H)
    (hs : ∀ i σ H, i < n → Pv i σ H → g (.int (lo + i)) σ H fun σ2 H2 => tb { D with nx := Pv (i + 1), ct := Pv (i + 1), bk := D.nx } σ2 H2) (hd : ∀ σ H, Pv n σ H → D.nx σ H) :
    ∃ W : Nat → Nat → St → Hp → Prop, (∃ m, W 0 m σ H) ∧ ∀ i m σ H, W i m σ H →
      ((Itr lo n).stop i H ∧ D.nx σ H) ∨ ((Itr lo n).go i H ∧ ∃ N : St → Hp → Prop, (∀ σ' H', N σ' H' → ∃ m', m' < m ∧ W (i + 1) m' σ' H') ∧ ∀ x H', (Itr lo n).yld i H x H' → g x σ H' fun σ2 H2 => tb { D with nx := N, ct := N, bk := D.nx } σ2 H2) := by
  refine ⟨fun i m σ H => m = n - i ∧ i ≤ n ∧ Pv i σ H, ⟨n, by simp, Nat.zero_le _, h0⟩, ?_⟩
  rintro i m σ H ⟨rfl, hi, p⟩
  by_cases hlt : i < n
  · refine .inr ⟨hlt, Pv (i + 1), fun σ' H' p' => ⟨n - (i + 1), by omega, rfl, hlt, p'⟩, fun x H' y => ?_⟩
    obtain ⟨e, y⟩ := y
    subst e y
    exact hs i σ _ hlt p
  · have e : i = n := by omega
    subst e
    exact .inl ⟨Nat.le_refl _, hd σ H p⟩
end L2
namespace L2
open PySem PySem.Spec PyProof.Rows
abbrev R2 := V → V → Hp → VK → Prop
def OpR (X : Cx) (f : Value → Value → Sem Value) (r : R2) : Prop :=
  ∀ (pins : List (Addr × Obj)) (s : Shared) (σ : St) (H : Hp) (x y : V) (v u : Value) (Q : VK), Inv X pins σ H s → RelV x v → RelV y u → r x y H Q →
    wpAny (model X.prog X.w) X.A (f v u) (EP X pins σ Q) X.xe s
def UnR (X : Cx) (f : Value → Sem Value) (r : V → Hp → VK → Prop) : Prop :=
  ∀ (pins : List (Addr × Obj)) (s : Shared) (σ : St) (H : Hp) (x : V) (v : Value) (Q : VK), Inv X pins σ H s → RelV x v → r x H Q →
    wpAny (model X.prog X.w) X.A (f v) (EP X pins σ Q) X.xe s
def CallR (X : Cx) (f : Value) (r : List V → Hp → VK → Prop) : Prop :=
  ∀ (pins : List (Addr × Obj)) (s : Shared) (σ : St) (H : Hp) (xs : List V) (us : List Value) (Q : VK), Inv X pins σ H s → Vals xs us → r xs H Q →
    wpAny (model X.prog X.w) X.A (call f us) (EP X pins σ Q) X.xe s
def tOp (r : R2) (ta tb : TE) : TE := fun σ H Q => ta σ H fun x H1 => tb σ H1 fun y H2 => r x y H2 Q
def tUn (r : V → Hp → VK → Prop) (ta : TE) : TE := fun σ H Q => ta σ H fun x H1 => r x H1 Q
def rI (C : Int → Int → Prop) (g : Int → Int → V) : R2 := fun x y H Q => ∃ i j, x = .int i ∧ y = .int j ∧ C i j ∧ Q (g i j) H
def rI0 (g : Int → Int → V) : R2 := fun x y H Q => ∃ i j, x = .int i ∧ y = .int j ∧ Q (g i j) H
def rU (g : Int → V) : V → Hp → VK → Prop := fun x H Q => ∃ i, x = .int i ∧ Q (g i) H
section
variable {X : Cx} {a b c : Expr} {ta tb tc : TE} {pos : Pos}
theorem binT (ha : PE X a ta) (hb : PE X b tb) {pins : List (Addr × Obj)} {s : Shared} {σ : St} {H : Hp} {R : V → V → Hp → Prop} (I : Inv X pins σ H s)
    (h : ta σ H fun x H1 => tb σ H1 fun y H2 => R x y H2) {Q : Value → Shared → Prop} {f : Value → Value → Sem Value}
    (hf : ∀ v u s2 x y H2, Inv X pins σ H2 s2 → RelV x v → RelV y u → R x y H2 → wpAny (model X.prog X.w) X.A (f v u) Q X.xe s2) :
    wpAny (model X.prog X.w) X.A (eval a X.env) (fun v s₁ => wpAny (model X.prog X.w) X.A (eval b X.env) (fun u s₂ => wpAny (model X.prog X.w) X.A (f v u) Q X.xe s₂) X.xe s₁) X.xe s := by
  refine thn (ha pins s σ H _ I h) fun v s1 ⟨x, H1, I1, r1, q1⟩ => ?_
  refine thn (hb pins s1 σ H1 _ I1 q1) fun u s2 ⟨y, H2, I2, r2, q2⟩ => ?_
  exact hf v u s2 x y H2 I2 r1 r2 q2
theorem pe_op {op : Operator} {r : R2} (ho : OpR X (binaryOp op) r) (ha : PE X a ta) (hb : PE X b tb) : PE X (.BinOp a op b pos) (tOp r ta tb) := by
  intro pins s σ H Q I h
  exact wpAny_BinOp (binT ha hb I h fun v u s2 x y H2 I2 rx ry q => ho pins s2 σ H2 x y v u Q I2 rx ry q)
theorem pe_un {op : UnaryOp} {r : V → Hp → VK → Prop} (ho : UnR X (unaryOp op) r) (ha : PE X a ta) : PE X (.UnaryOp op a pos) (tUn r ta) := by
  intro pins s σ H Q I h
  exact UnaryOp_ (thn (ha pins s σ H _ I h) fun v s1 ⟨x, H1, I1, r1, q1⟩ => ho pins s1 σ H1 x v Q I1 r1 q1)
theorem opI {f : Value → Value → Sem Value} {C : Int → Int → Prop} {g : Int → Int → Int}
    (rule : ∀ (i j : Int) (t u : Tok) (s : Shared) (Q : Value → Shared → Prop) (E : Value → Shared → Prop), C i j → Q (.int (g i j) s.toks) { s with toks := s.toks + 1 } → wpAny (model X.prog X.w) X.A (f (.int i t) (.int j u)) Q E s) :
    OpR X f (rI C fun i j => .int (g i j)) := by
  intro pins s σ H x y v u Q I rx ry h
  obtain ⟨i, j, rfl, rfl, hc, q⟩ := h
  obtain ⟨t, rfl⟩ := rx
  obtain ⟨t', rfl⟩ := ry
  exact rule i j t t' s _ _ hc ⟨.int (g i j), H, I.tok _, ⟨_, rfl⟩, q⟩
theorem opI0 {f : Value → Value → Sem Value} {g : Int → Int → Int}
    (rule : ∀ (i j : Int) (t u : Tok) (s : Shared) (Q : Value → Shared → Prop) (E : Value → Shared → Prop), Q (.int (g i j) s.toks) { s with toks := s.toks + 1 } → wpAny (model X.prog X.w) X.A (f (.int i t) (.int j u)) Q E s) :
    OpR X f (rI0 fun i j => .int (g i j)) := by
  intro pins s σ H x y v u Q I rx ry h
  obtain ⟨i, j, rfl, rfl, q⟩ := h
  obtain ⟨t, rfl⟩ := rx
  obtain ⟨t', rfl⟩ := ry
  exact rule i j t t' s _ _ ⟨.int (g i j), H, I.tok _, ⟨_, rfl⟩, q⟩
theorem opB0 {f : Value → Value → Sem Value} {g : Int → Int → Bool}
    (rule : ∀ (i j : Int) (t u : Tok) (s : Shared) (Q : Value → Shared → Prop) (E : Value → Shared → Prop), Q (.bool (g i j)) s → wpAny (model X.prog X.w) X.A (f (.int i t) (.int j u)) Q E s) :
    OpR X f (rI0 fun i j => .bl (g i j)) := by
  intro pins s σ H x y v u Q I rx ry h
  obtain ⟨i, j, rfl, rfl, q⟩ := h
  obtain ⟨t, rfl⟩ := rx
  obtain ⟨t', rfl⟩ := ry
  exact rule i j t t' s _ _ ⟨.bl (g i j), H, I, rfl, q⟩
def CDiv (i j : Int) : Prop := 0 < j ∧ j < 1073741824
def CDivN (i j : Int) : Prop := j ≠ 0 ∧ j.natAbs < 1073741824
def CPow (i j : Int) : Prop := 0 ≤ j ∧ j ≤ 1000000 ∧ i.natAbs < 2 ^ 64
def CMul (i j : Int) : Prop := (-(2 ^ 64) < i ∧ i < 2 ^ 64) ∨ (-(2 ^ 64) < j ∧ j < 2 ^ 64)
theorem CMul.ok {i j : Int} (h : CMul i j) : IntMulOk i j := by
  rcases h with ⟨h1, h2⟩ | ⟨h1, h2⟩
  · exact .of_left (intBits_le_64 h1 h2)
  · exact .of_right (intBits_le_64 h1 h2)
theorem op_add : OpR X (binaryOp .Add) (rI0 fun i j => .int (i + j)) := opI0 fun _ _ _ _ _ _ _ q => add_int q
theorem op_sub : OpR X (binaryOp .Sub) (rI0 fun i j => .int (i - j)) := opI0 fun _ _ _ _ _ _ _ q => sub_int q
theorem op_mul : OpR X (binaryOp .Mult) (rI CMul fun i j => .int (i * j)) := opI fun _ _ _ _ _ _ _ hc q => mul_int q hc.ok
theorem op_fdiv : OpR X (binaryOp .FloorDiv) (rI CDiv fun i j => .int (i / j)) := opI fun i j _ _ _ _ _ hc q => by
  have h1 : (0 : Int) < j := hc.1
  have h2 : j < 1073741824 := hc.2
  exact floordiv_int (by omega) (by rw [Int.fdiv_eq_ediv_of_nonneg i (by omega)]; exact q) (.inl (PyProof.noPylong_small (by omega)))
theorem op_mod : OpR X (binaryOp .Mod) (rI (fun _ j => 0 < j) fun i j => .int (i % j)) := opI fun i j _ _ _ _ _ hc q => by
  have h1 : (0 : Int) < j := hc
  exact mod_int' (by omega) (by rw [Int.fmod_eq_emod_of_nonneg i (by omega)]; exact q)
theorem op_pow : OpR X (binaryOp .Pow) (rI CPow fun i j => .int (i ^ j.toNat)) := opI fun _ _ _ _ _ _ _ hc q => pow_int_small hc.1 hc.2.1 hc.2.2 q
theorem unI {f : Value → Sem Value} {g : Int → Int}
    (rule : ∀ (i : Int) (t : Tok) (s : Shared) (Q : Value → Shared → Prop) (E : Value → Shared → Prop), Q (.int (g i) s.toks) { s with toks := s.toks + 1 } → wpAny (model X.prog X.w) X.A (f (.int i t)) Q E s) :
    UnR X f (rU fun i => .int (g i)) := by
  intro pins s σ H x v Q I rx h
  obtain ⟨i, rfl, q⟩ := h
  obtain ⟨t, rfl⟩ := rx
  exact rule i t s _ _ ⟨.int (g i), H, I.tok _, ⟨_, rfl⟩, q⟩
theorem un_neg : UnR X (unaryOp .USub) (rU fun i => .int (-i)) := unI fun _ _ _ _ _ q => neg_int q
end
def scal : V → V → Bool
  | .non, .non => true | .non, .int _ => true | .int _, .non => true | .non, .bl _ => true | .bl _, .non => true | .non, .str _ => true | .str _, .non => true
  | .int _, .int _ => true | .bl _, .bl _ => true | .str _, .str _ => true | .byt _, .byt _ => true
  | .int _, .str _ => true | .str _, .int _ => true | .bl _, .str _ => true | .str _, .bl _ => true
  | _, _ => false
def rEq : R2 := fun x y H Q => scal x y = true ∧ Q (.bl (decide (x = y))) H
def rNe : R2 := fun x y H Q => scal x y = true ∧ Q (.bl (!decide (x = y))) H
theorem dec_int {i j : Int} : decide (V.int i = V.int j) = (i == j) := by
  rw [Bool.eq_iff_iff]
  simp
theorem dec_bl {i j : Bool} : decide (V.bl i = V.bl j) = (i == j) := by
  rw [Bool.eq_iff_iff]
  simp
theorem dec_str {i j : Str} : decide (V.str i = V.str j) = (i == j) := by
  rw [Bool.eq_iff_iff]
  simp
theorem dec_byt {i j : Array UInt8} : decide (V.byt i = V.byt j) = (i.toList == j.toList) := by
  rw [Bool.eq_iff_iff]
  cases i
  cases j
  simp
section
variable {X : Cx} {a b c : Expr} {ta tb tc : TE} {pos : Pos}
theorem fin_bl {pins : List (Addr × Obj)} {σ : St} {H : Hp} {s : Shared} {Q : VK} {k k' : Bool} (I : Inv X pins σ H s) (q : Q (.bl k) H) (e : k = k') : EP X pins σ Q (.bool k') s := by
  subst e
  exact ⟨.bl k, H, I, rfl, q⟩
theorem op_eq : OpR X (compareOp .Eq) rEq := by
  intro pins s σ H x y v u Q I rx ry h
  obtain ⟨hs, q⟩ := h
  cases x with
  | non =>
    cases rx
    cases y with
    | non => cases ry; exact PySem.EqNone.eq_none_none (fin_bl I q (by simp))
    | bl j => cases ry; exact PySem.EqNone.eq_none_bool (fin_bl I q (by simp))
    | int j => obtain ⟨t', rfl⟩ := ry; exact PySem.EqNone.eq_none_int (fin_bl I q (by simp))
    | str j => obtain ⟨t', rfl⟩ := ry; exact PySem.EqNone.eq_none_str (fin_bl I q (by simp))
    | _ => exact absurd (show false = true from hs) Bool.false_ne_true
  | bl i =>
    cases rx
    cases y with
    | non => cases ry; exact PySem.EqNone.eq_bool_none (fin_bl I q (by simp))
    | bl j => cases ry; exact eq_bool (fin_bl I q dec_bl)
    | str j => obtain ⟨t', rfl⟩ := ry; exact PySem.EqMixed.eq_bool_str (fin_bl I q (by simp))
    | _ => exact absurd (show false = true from hs) Bool.false_ne_true
  | int i =>
    obtain ⟨t, rfl⟩ := rx
    cases y with
    | non => cases ry; exact PySem.EqNone.eq_int_none (fin_bl I q (by simp))
    | int j => obtain ⟨t', rfl⟩ := ry; exact eq_int (fin_bl I q dec_int)
    | str j => obtain ⟨t', rfl⟩ := ry; exact PySem.EqMixed.eq_int_str (fin_bl I q (by simp))
    | _ => exact absurd (show false = true from hs) Bool.false_ne_true
  | str i =>
    obtain ⟨t, rfl⟩ := rx
    cases y with
    | non => cases ry; exact PySem.EqNone.eq_str_none (fin_bl I q (by simp))
    | bl j => cases ry; exact PySem.EqMixed.eq_str_bool (fin_bl I q (by simp))
    | int j => obtain ⟨t', rfl⟩ := ry; exact PySem.EqMixed.eq_str_int (fin_bl I q (by simp))
    | str j => obtain ⟨t', rfl⟩ := ry; exact eq_str (fin_bl I q dec_str)
    | _ => exact absurd (show false = true from hs) Bool.false_ne_true
  | byt i =>
    obtain ⟨t, rfl⟩ := rx
    cases y with
    | byt j => obtain ⟨t', rfl⟩ := ry; exact PySem.W.eq_bytes (fin_bl I q dec_byt)
    | _ => exact absurd (show false = true from hs) Bool.false_ne_true
  | _ => cases y <;> exact absurd (show false = true from hs) Bool.false_ne_true
theorem op_ne : OpR X (compareOp .NotEq) rNe := by
  intro pins s σ H x y v u Q I rx ry h
  obtain ⟨hs, q⟩ := h
  cases x with
  | non =>
    cases rx
    cases y with
    | non => cases ry; exact PySem.EqNone.ne_none_none (fin_bl I q (by simp))
    | bl j => cases ry; exact PySem.EqNone.ne_none_bool (fin_bl I q (by simp))
    | int j => obtain ⟨t', rfl⟩ := ry; exact PySem.EqNone.ne_none_int (fin_bl I q (by simp))
    | str j => obtain ⟨t', rfl⟩ := ry; exact PySem.EqNone.ne_none_str (fin_bl I q (by simp))
    | _ => exact absurd (show false = true from hs) Bool.false_ne_true
  | bl i =>
    cases rx
    cases y with
    | non => cases ry; exact PySem.EqNone.ne_bool_none (fin_bl I q (by simp))
    | bl j => cases ry; exact ne_bool (fin_bl I q (congrArg not dec_bl))
    | str j => obtain ⟨t', rfl⟩ := ry; exact PySem.EqMixed.ne_bool_str (fin_bl I q (by simp))
    | _ => exact absurd (show false = true from hs) Bool.false_ne_true
  | int i =>
    obtain ⟨t, rfl⟩ := rx
    cases y with
    | non => cases ry; exact PySem.EqNone.ne_int_none (fin_bl I q (by simp))
    | int j => obtain ⟨t', rfl⟩ := ry; exact ne_int (fin_bl I q (congrArg not dec_int))
    | str j => obtain ⟨t', rfl⟩ := ry; exact PySem.EqMixed.ne_int_str (fin_bl I q (by simp))
    | _ => exact absurd (show false = true from hs) Bool.false_ne_true
  | str i =>
    obtain ⟨t, rfl⟩ := rx
    cases y with
    | non => cases ry; exact PySem.EqNone.ne_str_none (fin_bl I q (by simp))
    | bl j => cases ry; exact PySem.EqMixed.ne_str_bool (fin_bl I q (by simp))
    | int j => obtain ⟨t', rfl⟩ := ry; exact PySem.EqMixed.ne_str_int (fin_bl I q (by simp))
    | str j => obtain ⟨t', rfl⟩ := ry; exact ne_str (fin_bl I q (congrArg not dec_str))
    | _ => exact absurd (show false = true from hs) Bool.false_ne_true
  | byt i =>
    obtain ⟨t, rfl⟩ := rx
    cases y with
    | byt j => obtain ⟨t', rfl⟩ := ry; exact PySem.W.ne_bytes (fin_bl I q (congrArg not dec_byt))
    | _ => exact absurd (show false = true from hs) Bool.false_ne_true
  | _ => cases y <;> exact absurd (show false = true from hs) Bool.false_ne_true
theorem op_lt : OpR X (compareOp .Lt) (rI0 fun i j => .bl (decide (i < j))) := opB0 fun _ _ _ _ _ _ _ q => lt_int q
theorem op_gt : OpR X (compareOp .Gt) (rI0 fun i j => .bl (decide (j < i))) := opB0 fun _ _ _ _ _ _ _ q => gt_int q
theorem op_isN : OpR X (compareOp .Is) (fun x y H Q => y = .non ∧ Q (.bl (decide (x = .non))) H) := by
  intro pins s σ H x y v u Q I rx ry h
  obtain ⟨rfl, q⟩ := h
  cases ry
  refine is_none_gen (fin_bl I q ?_)
  cases x <;> first
    | (cases rx; rfl)
    | (obtain ⟨t, rfl⟩ := rx; rfl)
theorem OpR.or {f : Value → Value → Sem Value} {r r' : R2} (h : OpR X f r) (h' : OpR X f r') : OpR X f (fun x y H Q => r x y H Q ∨ r' x y H Q) := by
  intro pins s σ H x y v u Q I rx ry q
  rcases q with q | q
  · exact h pins s σ H x y v u Q I rx ry q
  · exact h' pins s σ H x y v u Q I rx ry q
theorem nomark (b : Expr) {op : CmpOp} (h : op ≠ .In := by decide) (h2 : op ≠ .NotIn := by decide) : behindInMarks op b = false := by
  have e1 : (op == CmpOp.In) = false := by cases op <;> first | rfl | exact absurd rfl h
  have e2 : (op == CmpOp.NotIn) = false := by cases op <;> first | rfl | exact absurd rfl h2
  cases b <;> simp [behindInMarks, e1, e2]
theorem pe_cmpR {op : CmpOp} {r : R2} (ho : OpR X (compareOp op) r) (ha : PE X a ta) (hb : PE X b tb) (hm : behindInMarks op b = false) : PE X (.Compare a [op] [b] pos) (tOp r ta tb) := by
  intro pins s σ H Q I h
  exact wpAny_Compare1 (binT ha hb I h fun v u s2 x y H2 I2 rx ry q => ho pins s2 σ H2 x y v u Q I2 rx ry q) hm
def tTest (t : TE) : TT := fun σ H Q => t σ H fun x H' => ∃ k, x = .bl k ∧ Q k H'
theorem pt_cmpR {op : CmpOp} {r : R2} (ho : OpR X (compareOp op) r) (ha : PE X a ta) (hb : PE X b tb) (hm : behindInMarks op b = false) : PT X (.Compare a [op] [b] pos) (tTest (tOp r ta tb)) := by
  intro pins s σ H Q I h
  refine wpAny_isTrue_Compare1 (thn (ha pins s σ H _ I h) fun v s1 ⟨x, H1, I1, r1, q1⟩ => thn (hb pins s1 σ H1 _ I1 q1) fun u s2 ⟨y, H2, I2, r2, q2⟩ =>
    thn (ho pins s2 σ H2 x y v u _ I2 r1 r2 q2) fun c s3 ⟨z, H3, I3, r3, k, e, q3⟩ => ?_) hm
  subst e
  cases r3
  exact wpAny_truthy_bool ⟨H3, I3, q3⟩
def tChain (r r' : R2) (ta tb tc : TE) : TE := fun σ H Q => ta σ H fun x H1 => tb σ H1 fun y H2 => r x y H2 fun z H3 => ∃ k, z = .bl k ∧
  (if k = true then tc σ H3 fun w' H4 => r' y w' H4 Q else Q (.bl false) H3)
theorem line63 : (sizeLine : Nat) < 2 ^ 63 := by rw [sizeLine_eq]; decide
theorem vals1 {x : V} {us : List Value} (r : Vals [x] us) : ∃ u, us = [u] ∧ RelV x u := by
  cases r with
  | cons r1 r2 => cases r2; exact ⟨_, rfl, r1⟩
theorem vals2 {x y : V} {us : List Value} (r : Vals [x, y] us) : ∃ u w', us = [u, w'] ∧ RelV x u ∧ RelV y w' := by
  cases r with
  | cons r1 r2 =>
    cases r2 with
    | cons r3 r4 => cases r4; exact ⟨_, _, rfl, r1, r3⟩
theorem call_min2 (hc : X.calm = true) : CallR X (.builtin "min") (fun xs H Q => ∃ i j, xs = [.int i, .int j] ∧ Q (.int (if j < i then j else i)) H) := by
  intro pins s σ H xs us Q I r h
  obtain ⟨i, j, rfl, q⟩ := h
  obtain ⟨u, w', rfl, ⟨t, rfl⟩, ⟨t', rfl⟩⟩ := vals2 r
  refine min_two_ints (I.ok.hd hc) fun h' tk k => ⟨_, H, I.kept k, ?_, q⟩
  by_cases hj : j < i
  · rw [if_pos hj, if_pos hj]; exact ⟨_, rfl⟩
  · rw [if_neg hj, if_neg hj]; exact ⟨_, rfl⟩
end
end L2
namespace L2
open PySem PySem.Spec PyProof.Rows
structure ObjM (h : Heap) (x dx C : Addr) (mA : Str → Option Value) : Prop where
  obj : h.get? x = some (PySem.W.instObj C dx)
  ns : h.Ns1 dx mA
  ne : dx ≠ x
theorem lookIn_ns {h : Heap} {dx : Addr} {mA : Str → Option Value} (n : h.Ns1 dx mA) : ∃ od, h.get? dx = some od ∧ ∀ name, PySem.W.lookIn name od = some (mA name) := by
  obtain ⟨o, es, ep, ho, hd, hk, _, hm⟩ := n
  refine ⟨o, ho, fun name => ?_⟩
  have e := hm name
  unfold nsFind findBy at e
  rw [← Array.find?_toList] at e
  unfold PySem.W.lookIn
  rw [hd]
  dsimp only
  split
  · rename_i y q
    rw [q] at e
    exact congrArg some e
  · rename_i q
    rw [q] at e
    have a : es.toList.any (·.refKey) = false := by
      rw [List.any_eq_false]
      intro y hy
      obtain ⟨z, t, hkey⟩ := hk y (Array.mem_toList_iff.mp hy)
      simp [DictEntry.refKey, hkey]
    have a' : ¬ es.toList.any (·.refKey) = true := by rw [a]; exact Bool.false_ne_true
    rw [if_neg a']
    exact congrArg some e
theorem ObjM.look {h : Heap} {x dx C : Addr} {mA : Str → Option Value} (I : ObjM h x dx C mA) : ∃ od, PySem.W.InstAt h x (PySem.W.instObj C dx) C (some od) ∧ ∀ name, PySem.W.lookIn name od = some (mA name) :=
  let ⟨od, ho, hl⟩ := lookIn_ns I.ns
  ⟨od, ⟨I.obj, rfl, rfl, ho⟩, hl⟩
section
variable {prog : Program} {w : World} {A : Around} {E : Value → Shared → Prop} {s : Shared} {K : PySem.W.Frag} {x dx C f : Addr} {mA : Str → Option Value} {name : Str} {v : Value}
end
section
variable {P : Program} {w : World} {H H' : Hp} {h h' : Heap} {a C dx : Addr} {fs fs' : List (Str × V)}
theorem ins_get (hok : HOk P w H h) (e : H a = some (.ins C dx fs)) : ∃ mA, ObjM h a dx C mA ∧ (∀ f, RelO (fs.lookup f) (mA f)) ∧ PySem.Within mA (fs.map (·.1)) ∧ fs.length ≤ 1000 ∧ H dx = some (.own a) := by
  obtain ⟨d, z, ne, ob, mA, n, r, q⟩ := (show ObjOk P w H h a (.ins C dx fs) from hok a _ e)
  exact ⟨mA, ⟨ob, n, ne⟩, r, q, z, d⟩
end
structure Cls (K : PySem.W.Frag) (C : Addr) : Prop where
  pg : PySem.W.plainGet K C Str.empty = true
  hd : PySem.W.hasDictIn K C = true
  po : PySem.W.plainOver K C = true
  sa : PySem.W.findIn K (.ref C) "__setattr__" = some (some (.builtin "object.__setattr__"))
theorem Cls.get {K : PySem.W.Frag} {C : Addr} (c : Cls K C) (f : Str) : PySem.W.plainGet K C f = true := c.pg
structure Con (K : PySem.W.Frag) (C : Addr) (f : Str) (v : V) (u : Value) : Prop where
  at_ : PySem.W.findIn K (.ref C) f = some (some u)
  rel : RelV v u
  get : PySem.W.specialIn K u "__get__" = some none
  cp : PySem.W.copiedNames.contains f = false
structure Meth (K : PySem.W.Frag) (C : Addr) (m : Str) (f : Addr) : Prop where
  at_ : PySem.W.findIn K (.ref C) m = some (some (.ref f))
  fn : PySem.W.isFn K (.ref f) = true
  kp : PySem.W.keepIn K (.ref f) = true
section
variable {X : Cx} {pins : List (Addr × Obj)} {σ : St} {H : Hp} {s : Shared} {a C dx : Addr} {fs : List (Str × V)} {f : Str} {v : V} {A : Around} {E : Value → Shared → Prop}
end
section
variable {X : Cx} {o e value : Expr} {f : Str} {pos pos' tpos : Pos} {ta tv : TE}
end
section
variable {X : Cx} {pins : List (Addr × Obj)} {σ : St} {H : Hp} {s : Shared} {A : Around} {E : Value → Shared → Prop} {Q : Value → Shared → Prop} {c : Value} {b : Bool}
inductive TyOf (K : PySem.W.Frag) (H : Hp) : V → Value → Prop where
  | non : TyOf K H .non (.type "NoneType")
  | bl (x : Bool) : TyOf K H (.bl x) (.type "bool")
  | int (i : Int) : TyOf K H (.int i) (.type "int")
  | str (x : Str) : TyOf K H (.str x) (.type "str")
  | flt (x : UInt64) : TyOf K H (.flt x) (.type "float")
  | lst {a : Addr} {xs : List V} (e : H a = some (.lst xs)) : TyOf K H (.ref a) (.type "list")
  | frz {a : Addr} {o : Obj} {xs : List V} (e : H a = some (.frz o (.lst xs))) : TyOf K H (.ref a) (.type "list")
  | tup {a : Addr} {xs : List V} (e : H a = some (.tup xs)) : TyOf K H (.ref a) (.type "tuple")
  | dK {a : Addr} {kvs : List (Key × V)} (e : H a = some (.dK kvs)) : TyOf K H (.ref a) (.type "dict")
  | dT {a : Addr} {kvs : List (List Key × V)} (e : H a = some (.dT kvs)) : TyOf K H (.ref a) (.type "dict")
  | ins {a C dx : Addr} {fs : List (Str × V)} (e : H a = some (.ins C dx fs)) (cl : Cls K C) (ha : PySem.W.findIn K (.ref C) "__class__" = some (some (.builtin "object.__class__")))
      (hn : PySem.W.specialIn K (.builtin "object.__class__") "__get__" = some (some (.builtin "getset_descriptor.__get__"))) (htk : PySem.W.takesIn K (.builtin "object.__class__") = some true)
      (hm : PySem.W.mroIn K C (.type "object") = some true) : TyOf K H (.ref a) (.ref C)
theorem isinst_ok {x : V} {u t : Value} (I : Inv X pins σ H s) (rx : RelV x u) (ty : TyOf X.K H x t) (e : PySem.W.kitOne X.K t c = some b) (h : ∀ tk, Q (.bool b) { s with toks := tk }) :
    wpAny (model X.prog X.w) A (call (.builtin "isinstance") [u, c]) Q E s := by
  cases ty with
  | non => cases (show u = Value.none from rx); exact PySem.W.kia_one PySem.W.kitx_none I.kIn True.intro e (fun z => nomatch z) h
  | bl y => cases (show u = Value.bool y from rx); exact PySem.W.kia_one PySem.W.kitx_bool I.kIn True.intro e (fun z => nomatch z) h
  | int i => obtain ⟨t, q⟩ := (show ∃ t, u = Value.int i t from rx); cases q; exact PySem.W.kia_one PySem.W.kitx_int I.kIn True.intro e (fun z => nomatch z) h
  | str y => obtain ⟨t, q⟩ := (show ∃ t, u = Value.str y t from rx); cases q; exact PySem.W.kia_one PySem.W.kitx_str I.kIn True.intro e (fun z => nomatch z) h
  | flt y => obtain ⟨t, q⟩ := (show ∃ t, u = Value.float y t from rx); cases q; exact PySem.W.kia_one PySem.W.kitx_float I.kIn True.intro e (fun z => nomatch z) h
  | @lst a xs ea =>
    cases (show u = Value.ref a from rx)
    obtain ⟨_, _, n, _, h1⟩ := (show ObjOk X.prog X.w H s.heap a (.lst xs) from I.hok a _ ea)
    exact PySem.W.kia_one PySem.W.kitx_list I.kIn ⟨_, h1, rfl⟩ e (fun z => nomatch z) h
  | @frz a ob xs ea =>
    cases (show u = Value.ref a from rx)
    obtain ⟨_, _, _, n, _, h1⟩ := (show ObjOk X.prog X.w H s.heap a (.frz ob (.lst xs)) from I.hok a _ ea)
    exact PySem.W.kia_one PySem.W.kitx_list I.kIn ⟨_, h1, rfl⟩ e (fun z => nomatch z) h
  | @tup a xs ea =>
    cases (show u = Value.ref a from rx)
    obtain ⟨_, _, _, p⟩ := (show ObjOk X.prog X.w H s.heap a (.tup xs) from I.hok a _ ea)
    obtain ⟨o, h1, h2, _⟩ := p
    exact PySem.W.kia_one PySem.W.kitx_tuple I.kIn ⟨o, h1, h2⟩ e (fun z => nomatch z) h
  | @dK a kvs ea =>
    cases (show u = Value.ref a from rx)
    obtain ⟨_, _, vs, _, p⟩ := (show ObjOk X.prog X.w H s.heap a (.dK kvs) from I.hok a _ ea)
    obtain ⟨o, es, ep, h1, h2, _⟩ := p
    exact PySem.W.kia_one PySem.W.kitx_dict I.kIn ⟨o, h1, h2.1⟩ e (fun z => nomatch z) h
  | @dT a kvs ea =>
    cases (show u = Value.ref a from rx)
    obtain ⟨_, _, xs, _, o, es, ep, h1, h2, _⟩ := (show ObjOk X.prog X.w H s.heap a (.dT kvs) from I.hok a _ ea)
    exact PySem.W.kia_one PySem.W.kitx_dict I.kIn ⟨o, h1, h2.1⟩ e (fun z => nomatch z) h
  | @ins a C dx fs ea cl ha hn htk hm =>
    cases (show u = Value.ref a from rx)
    obtain ⟨mA, O, _⟩ := ins_get I.hok ea
    obtain ⟨od, J, _⟩ := O.look
    exact PySem.W.kia_one (PySem.W.kitx_own (cl.get _) cl.hd ha hn htk hm) I.kIn J e (fun z => nomatch z) h
end
end L2
namespace L2
open PySem PySem.Spec PyProof.Rows
structure Room (k : Nat) (A : Around) : Prop where
  hd : A.handled = none
  dp : A.depth + 3 * k + 5 < recursionLimit
  un : A.units + 16 * k + 200 < cLine
theorem Room.mono {j k : Nat} {A : Around} (r : Room k A) (h : j ≤ k) : Room j A := ⟨r.hd, by have := r.dp; omega, by have := r.un; omega⟩
theorem Room.deeper {k : Nat} {A : Around} (r : Room (k + 1) A) (env : Env) : Room k (A.deeper env) :=
  ⟨r.hd, by have := r.dp; show A.depth + 1 + 3 * k + 5 < _; omega, by have := r.un; show A.units + 3 + 16 * k + 200 < _; omega⟩
theorem Room.in1 {k : Nat} {A : Around} (r : Room (k + 1) A) : Room k A.in1 :=
  ⟨r.hd, by have := r.dp; show A.depth + 3 * k + 5 < _; omega, by have := r.un; show A.units + 1 + 16 * k + 200 < _; omega⟩
theorem Room.depth {k : Nat} {A : Around} (r : Room k A) : A.depth < recursionLimit := by have := r.dp; omega
theorem Room.units {k : Nat} {A : Around} (r : Room k A) : A.units + 64 < cLine := by have := r.un; omega
theorem Room.units0 {k : Nat} {A : Around} (r : Room k A) : A.units < cLine := by have := r.un; omega
def tNil : TA := fun _ H Q => Q [] H
def tCons (ta : TE) (tr : TA) : TA := fun σ H Q => ta σ H fun x H1 => tr σ H1 fun xs H2 => Q (x :: xs) H2
section
variable {X : Cx} {e : Expr} {es : List Expr} {te : TE} {t : TA} {pos : Pos}
theorem pa_nil : PA X [] tNil := fun _ _ _ _ H Q I h => Calls.spliced_nil ⟨[], H, I, .nil, h⟩
theorem pa_cons (ha : PE X e te) (hr : PA X es t) (hs : starEach (e :: es) X.env = (false, eval e X.env) :: starEach es X.env := by rfl) : PA X (e :: es) (tCons te t) := by
  intro pos pins s σ H Q I h
  rw [hs]
  show wpAny _ _ (spliced ((false, eval e X.env) :: backTo pos (starEach es X.env))) _ _ s
  refine Calls.spliced_cons (thn (ha pins s σ H _ I h) fun u s1 ⟨x, H1, I1, r1, q1⟩ => ?_)
  exact thn (hr pos pins s1 σ H1 _ I1 q1) fun us s2 ⟨xs, H2, I2, r2, q2⟩ => ⟨x :: xs, H2, I2, .cons r1 r2, q2⟩
def tTup (t : TA) : TE := fun σ H Q => t σ H fun xs H1 => xs.length ≤ sizeLine ∧ ∀ p, H1 p = none → Q (.ref p) (upd H1 p (.tup xs))
def tLst (t : TA) : TE := fun σ H Q => t σ H fun xs H1 => xs.length ≤ sizeLine ∧ ∀ p, H1 p = none → Q (.ref p) (upd H1 p (.lst xs))
theorem pe_tup {x1} (h : PA X es t) : PE X (.Tuple es x1 pos) (tTup t) := by
  intro pins s σ H Q I hq
  refine wpAny_Tuple_spliced (thn (h pos pins s σ H _ I hq) fun us s1 ⟨xs, H1, I1, r, z, q⟩ => ⟨by rw [← r.length]; exact z, ?_⟩)
  have hf : H1 s1.heap.objs.size = none := I1.hok.fresh (Nat.le_refl _)
  refine ⟨.ref s1.heap.objs.size, upd H1 s1.heap.objs.size (.tup xs), I1.laid (t' := s1.toks) (fun b u e => Heap.get?_push_of_some _ e) (Nat.le_refl _) ?_, rfl, q _ hf⟩
  exact ⟨z, us, r, ⟨_, Heap.get?_push_size _ rfl, rfl, _, rfl⟩⟩
theorem pe_lst (h : PA X es t) : PE X (.List es pos) (tLst t) := by
  intro pins s σ H Q I hq
  refine wpAny_List_spliced (thn (h pos pins s σ H _ I hq) fun us s1 ⟨xs, H1, I1, r, z, q⟩ => ⟨by rw [← r.length]; exact z, ?_⟩)
  have hf : H1 s1.heap.objs.size = none := I1.hok.fresh (Nat.le_refl _)
  refine ⟨.ref s1.heap.objs.size, upd H1 s1.heap.objs.size (.lst xs), I1.laid (t' := s1.toks) (fun b u e => Heap.get?_push_of_some _ e) (Nat.le_refl _) ?_, rfl, q _ hf⟩
  exact ⟨z, us, 0, r, Heap.get?_push_size _ rfl⟩
end
abbrev Sp := List V → Hp → VK → XK → Prop
abbrev CXT := List Env → Hp → Shared → XK → Value → Shared → Prop
structure Env0 (P : Program) (w : World) (K : PySem.W.Frag) (mg : Str → Option Value) (base : Heap) (A : Around) (outer : List Env) (s : Shared) (H : Hp) : Prop where
  frames : A.frames = some outer
  mod : Mod K mg base
  bs : ∀ b o, base.get? b = some o → s.heap.get? b = some o ∧ H b = none
  bsz : base.objs.size ≤ s.heap.objs.size
  funs : s.heap.FunFrames base outer
  frf : ∀ b ∈ frs outer, H b = none
  hok : HOk P w H s.heap
  bare : AllBare s.gens
def CE (outer : List Env) (P : Program) (w : World) (H : Hp) (s : Shared) (Q : VK) (u : Value) (s' : Shared) : Prop :=
  ∃ v H', s'.os = s.os ∧ AllBare s'.gens ∧ Un (frs outer) [] H H' s.heap s'.heap ∧ HOk P w H' s'.heap ∧ RelV v u ∧ Q v H'
def CR (CX : CXT) (outer : List Env) (P : Program) (w : World) (H : Hp) (s : Shared) (Q : VK) (E : XK) (r : Result) (s' : Shared) : Prop :=
  match r with
  | .ok (.ret u) => CE outer P w H s Q u s'
  | .ok _ => False
  | .error e => CX outer H s E e s'
structure FnOk (P : Program) (w : World) (K : PySem.W.Frag) (mg : Str → Option Value) (base : Heap) (CX : CXT) (k : Nat) (f : Addr) (fd : FuncData) (ps : List Str) (sp : Sp) : Prop where
  len : ∀ vs H Q E, sp vs H Q E → vs.length = ps.length
  run : ∀ (A : Around) (outer : List Env) (s : Shared) (H : Hp) (args : Args) (us : List Value) (vs : List V) (Q : VK) (E : XK), Room k A → Env0 P w K mg base A outer s H → BindsTo s fd args (ps.zip us) → Vals vs us → sp vs H Q E →
    codeAny (model P w) A (.call (.ref f) args) (CR CX outer P w H s Q E) s
theorem FnOk.mono {P : Program} {w : World} {K : PySem.W.Frag} {mg : Str → Option Value} {base : Heap} {CX : CXT} {j k : Nat} {f : Addr} {fd : FuncData} {ps : List Str} {sp : Sp} (F : FnOk P w K mg base CX j f fd ps sp) (h : j ≤ k) :
    FnOk P w K mg base CX k f fd ps sp := ⟨F.len, fun A outer s H args us vs Q E hr => F.run A outer s H args us vs Q E (hr.mono h)⟩
theorem FnOk.imp {P : Program} {w : World} {K : PySem.W.Frag} {mg : Str → Option Value} {base : Heap} {CX : CXT} {k : Nat} {f : Addr} {fd : FuncData} {ps : List Str} {sp sp' : Sp} (F : FnOk P w K mg base CX k f fd ps sp)
    (h : ∀ vs H Q E, sp' vs H Q E → sp vs H Q E) : FnOk P w K mg base CX k f fd ps sp' :=
  ⟨fun vs H Q E q => F.len vs H Q E (h _ _ _ _ q), fun A outer s H args us vs Q E hr he hb hv hs => F.run A outer s H args us vs Q E hr he hb hv (h _ _ _ _ hs)⟩
theorem Env0.in1 {P : Program} {w : World} {K : PySem.W.Frag} {mg : Str → Option Value} {base : Heap} {A : Around} {outer : List Env} {s : Shared} {H : Hp} (e : Env0 P w K mg base A outer s H) :
    Env0 P w K mg base A.in1 outer s H := ⟨e.frames, e.mod, e.bs, e.bsz, e.funs, e.frf, e.hok, e.bare⟩
section
variable {X : Cx} {pins : List (Addr × Obj)} {σ : St} {H : Hp} {s s' : Shared}
theorem Inv.env0 (I : Inv X pins σ H s) : Env0 X.prog X.w X.K X.mg X.base X.A X.stack s H :=
  ⟨I.ok.frames, I.ok.mod, I.bs, Nat.le_trans I.ok.bsz I.sz, I.stack, I.stkFree, I.hok, I.bare⟩
theorem Inv.after {Q : VK} {u : Value} (I : Inv X pins σ H s) (h : CE X.stack X.prog X.w H s Q u s') : EP X pins σ Q u s' := by
  obtain ⟨v, H', os, bare, un, hok, r, q⟩ := h
  obtain ⟨hh, g, d, t, os'⟩ := s'
  obtain rfl : os' = s.os := os
  exact ⟨v, H', I.call (h' := hh) (g' := g) (d' := d) (t' := t) (ch := []) un hok bare (fun b z => absurd z (by simp)), r, q⟩
end
def tCall (sp : Sp) (dvs : List V) (E : XK) (t : TA) : TE := fun σ H Q => t σ H fun vs H1 => sp (vs ++ dvs) H1 Q E
def Binds (K : PySem.W.Frag) (fd : FuncData) (ps : List Str) (ds : List Value) : Prop :=
  ∀ (s : Shared) (us : List Value), K.In s.heap → (us ++ ds).length = ps.length → BindsTo s fd ⟨us, []⟩ (ps.zip (us ++ ds))
theorem Binds.all {K : PySem.W.Frag} {fd : FuncData} {ps : List Str} (h : ∀ us : List Value, us.length = ps.length → bindArgs fd ⟨us, []⟩ = pure (ps.zip us)) : Binds K fd ps [] := fun s us _ hl => by
  rw [List.append_nil] at hl ⊢
  exact .of_eq (h us hl)
def Passes (CX : CXT) (X : Cx) (E : XK) : Prop := ∀ (pins : List (Addr × Obj)) (σ : St) (H : Hp) (s : Shared) (e : Value) (s' : Shared), Inv X pins σ H s → CX X.stack H s E e s' → X.xe e s'
section
variable {X : Cx} {CX : CXT} {k : Nat} {f C : Addr} {fd : FuncData} {ps : List Str} {sp : Sp} {dvs : List V} {ds : List Value} {E : XK} {x m : Str} {p pos apos : Pos} {e o : Expr} {es : List Expr} {ta : TE} {t : TA}
theorem run_fn {pins : List (Addr × Obj)} {σ : St} {H : Hp} {s : Shared} {Q : VK} {us : List Value} {vs : List V} (F : FnOk X.prog X.w X.K X.mg X.base CX k f fd ps sp) (hr : Room k X.A) (hb : Binds X.K fd ps ds) (hd : Vals dvs ds) (hx : Passes CX X E)
    (I : Inv X pins σ H s) (r : Vals vs us) (h : sp (vs ++ dvs) H Q E) : wpAny (model X.prog X.w) X.A (call (.ref f) us) (EP X pins σ Q) X.xe s := by
  have r2 : Vals (vs ++ dvs) (us ++ ds) := r.append hd
  have hl : (us ++ ds).length = ps.length := by rw [← r2.length]; exact F.len _ _ _ _ h
  refine wpAny_call (codeAny_mono (F.run X.A X.stack s H ⟨us, []⟩ (us ++ ds) (vs ++ dvs) Q E hr I.env0 (hb s us I.kIn hl) r2 h) fun r s' hq => ?_)
  cases r with
  | error e => exact hx pins σ H s e s' I hq
  | ok fl =>
    cases fl with
    | ret u => exact I.after hq
    | next => exact False.elim hq
    | brk => exact False.elim hq
    | cont => exact False.elim hq
theorem pe_call (F : FnOk X.prog X.w X.K X.mg X.base CX k f fd ps sp) (hr : Room k X.A) (hg : Gl X x) (hm : X.mg x = some (.ref f)) (hk : PySem.W.keepIn X.K (.ref f) = true) (hb : Binds X.K fd ps ds) (hd : Vals dvs ds) (hx : Passes CX X E)
    (ha : PA X (e :: es) t) (hdb : (x == ("__debug__" : Str)) = false := by decide) (he : starEach (e :: es) X.env = (false, eval e X.env) :: starEach es X.env := by rfl) (hpl : (backTo pos (starEach es X.env)).any (·.1) = false := by rfl) :
    PE X (.Call (.Name x p) (e :: es) [] pos) (tCall sp dvs E t) := by
  intro pins s σ H Q I h
  refine wpAny_Call_Name_kw (ld_glob I hg hm ?_ hdb)
  refine PySem.W.callWith_K (h₀ := X.base) I.ok.mod.kin hk (thn (ha pos pins s σ H _ I h) fun us s1 ⟨vs, H1, I1, r, q⟩ => ⟨I1.kIn, ?_⟩) he hpl
  exact run_fn F hr hb hd hx I1 r q
structure Mk (K : PySem.W.Frag) (C f : Addr) : Prop where
  makes : PySem.W.makesIn K C = true
  init : PySem.W.findIn K (.ref C) "__init__" = some (some (.ref f))
  fn : PySem.W.isFn K (.ref f) = true
  kp : PySem.W.keepIn K (.ref C) = true
end
section
variable {X : Cx} {CX : CXT} {k : Nat} {f C : Addr} {fd : FuncData} {ps ks : List Str} {sp : Sp} {E : XK} {x m : Str} {p pos apos kpos : Pos} {e o : Expr} {es : List Expr} {kws : List Keyword} {te ta : TE} {t tk : TA} {nm : Option Str}
structure KBinds (K : PySem.W.Frag) (fd : FuncData) (ps ks : List Str) (g : List Value → List Value → List Value) (gV : List V → List V → List V) : Prop where
  to : ∀ (s : Shared) (us ws : List Value), K.In s.heap → (g us ws).length = ps.length → BindsTo s fd ⟨us, ks.zip ws⟩ (ps.zip (g us ws))
  rel : ∀ {vs : List V} {us : List Value} {zs : List V} {ws : List Value}, Vals vs us → Vals zs ws → Vals (gV vs zs) (g us ws)
variable {g : List Value → List Value → List Value} {gV : List V → List V → List V}
end
structure FnScope (N P : List Str) (sc : Scope) : Prop where
  kind : sc.kind = .function
  co : sc.isCoroutine = false
  gen : sc.isGenerator = false
  nd : N.Nodup
  pre : N.take P.length = P
  par : ∀ x ∈ P, sc.names.lookup x = some .local ∨ sc.names.lookup x = some .cell
  nofree : ∀ y ∈ sc.names, y.2 ≠ .free
theorem bindL_out {kindOf : Str → Option NameKind} {x : Str} : ∀ {binds : List (Str × Value)} {m : Str → Option Value}, (∀ v, (x, v) ∉ binds) → bindL kindOf binds m x = m x
  | [], _, _ => rfl
  | (n, v) :: r, m, h => by
    unfold bindL
    rw [bindL_out fun w hw => h w (List.mem_cons_of_mem _ hw)]
    split
    · have : x ≠ n := by rintro rfl; exact h v List.mem_cons_self
      simp [this]
    · rfl
theorem bindC_out {kindOf : Str → Option NameKind} {x : Str} : ∀ {binds : List (Str × Value)} {m : Str → Option Value}, (∀ v, (x, v) ∉ binds) → bindC kindOf binds m x = m x
  | [], _, _ => rfl
  | (n, v) :: r, m, h => by
    unfold bindC
    rw [bindC_out fun w hw => h w (List.mem_cons_of_mem _ hw)]
    split
    · rfl
    · have : x ≠ n := by rintro rfl; exact h v List.mem_cons_self
      simp [this]
theorem bindL_get {kindOf : Str → Option NameKind} {x : Str} {v : Value} : ∀ {P : List Str} {vs : List Value} {i : Nat} {m : Str → Option Value}, P.Nodup → P[i]? = some x → vs[i]? = some v → kindOf x = some .local →
    bindL kindOf (P.zip vs) m x = some v
  | [], _, _, _, _, h, _, _ => by simp at h
  | _ :: _, [], _, _, _, _, h, _ => by simp at h
  | p :: P, w :: vs, 0, m, nd, h1, h2, hk => by
    simp at h1 h2; subst h1; subst h2
    show bindL kindOf ((p, w) :: P.zip vs) m p = _
    unfold bindL
    rw [bindL_out fun v hv => (List.nodup_cons.mp nd).1 (List.of_mem_zip hv).1, if_pos hk]
    simp
  | p :: P, w :: vs, i + 1, m, nd, h1, h2, hk => by
    show bindL kindOf ((p, w) :: P.zip vs) m x = _
    unfold bindL
    exact bindL_get (i := i) (List.nodup_cons.mp nd).2 (by simpa using h1) (by simpa using h2) hk
theorem bindC_get {kindOf : Str → Option NameKind} {x : Str} {v : Value} : ∀ {P : List Str} {vs : List Value} {i : Nat} {m : Str → Option Value}, P.Nodup → P[i]? = some x → vs[i]? = some v → kindOf x ≠ some .local →
    bindC kindOf (P.zip vs) m x = some v
  | [], _, _, _, _, h, _, _ => by simp at h
  | _ :: _, [], _, _, _, _, h, _ => by simp at h
  | p :: P, w :: vs, 0, m, nd, h1, h2, hk => by
    simp at h1 h2; subst h1; subst h2
    show bindC kindOf ((p, w) :: P.zip vs) m p = _
    unfold bindC
    rw [bindC_out fun v hv => (List.nodup_cons.mp nd).1 (List.of_mem_zip hv).1, if_neg hk]
    simp
  | p :: P, w :: vs, i + 1, m, nd, h1, h2, hk => by
    show bindC kindOf ((p, w) :: P.zip vs) m x = _
    unfold bindC
    exact bindC_get (i := i) (List.nodup_cons.mp nd).2 (by simpa using h1) (by simpa using h2) hk
def start (N : List Str) (vs : List V) : St := vs.map some ++ List.replicate (N.length - vs.length) none
def cxOf (CX : CXT) (P : Program) (w : World) (K : PySem.W.Frag) (mg : Str → Option Value) (base : Heap) (N : List Str) (qual : Str) (scope : Scope) (f : Addr) (cd : Value) (A : Around) (outer : List Env) (s : Shared) (H : Hp) (E : XK) : Cx where
  prog := P
  w := w
  K := K
  mg := mg
  base := base
  A := A.deeper (envOfC qual scope s.heap.objs.size f cd)
  N := N
  s₀ := s
  H₀ := H
  env := envOfC qual scope s.heap.objs.size f cd
  outer := outer
  stack := envOfC qual scope s.heap.objs.size f cd :: outer
  ex := []
  calm := true
  fn := fun _ => true
  pn := []
  xe := fun e s' => wpAny (model P w) (A.deeper (envOfC qual scope s.heap.objs.size f cd)) (leaving (envOfC qual scope s.heap.objs.size f cd) e) (fun _ s'' => CX outer H s E e s'') (fun e' s'' => CX outer H s E e' s'') s'
theorem cell_has {sc : Scope} {n : Nat} {x : Str} (h : sc.names.lookup x = some .cell) : ∃ c, (cellsFrom n sc.names []).lookup x = some c := by
  have q := PySem.W.cellsFrom_some sc.names n [] (.inl h)
  exact Option.isSome_iff_exists.mp q
theorem inv_start {CX : CXT} {P : Program} {w : World} {K : PySem.W.Frag} {mg : Str → Option Value} {base : Heap} {N ps : List Str} {qual : Str} {scope : Scope} {f : Addr} {cd : Value} {A : Around} {outer : List Env} {s s1 : Shared} {H : Hp} {E : XK} {us : List Value} {vs : List V}
    (S : FnScope N ps scope) (hd : A.handled = none) (e0 : Env0 P w K mg base A outer s H) (hl : vs.length = ps.length) (r : Vals vs us)
    (x : InCallC s s.heap.objs.size (bindL (envOfC qual scope s.heap.objs.size f cd).kindOf (ps.zip us) fun _ => none) (cellsFrom (s.heap.objs.size + 1) scope.names []) (bindC (envOfC qual scope s.heap.objs.size f cd).kindOf (ps.zip us) fun _ => none) s1) :
    Inv (cxOf CX P w K mg base N qual scope f cd A outer s H E) [] (start N vs) H s1 := by
  have hpl : ps.length ≤ N.length := by have := congrArg List.length S.pre; rw [List.length_take] at this; omega
  obtain ⟨h1, tk, rfl, hk⟩ := x.done
  have noA : ∀ b : Addr, b ∉ (cxOf CX P w K mg base N qual scope f cd A outer s H E).ex := fun b z => absurd (show b ∈ ([] : List Addr) from z) (by simp)
  refine ⟨⟨e0.mod, S.kind, rfl, rfl, Nat.le_refl _, fun y z c h1 h2 => ?_, fun y hy => ?_, fun y c _ h => ?_, fun _ => hd, Around.frames_deeper e0.frames, .inr ⟨rfl, rfl⟩, fun b z => absurd z (noA b), e0.bs, e0.bsz, fun b _ _ => noA b, fun b z => absurd z (noA b), e0.funs, e0.frf⟩,
    rfl, e0.bare, Un.kept hk, ⟨_, x.toInCall.ns, fun i y v h1 h2 h3 => ?_⟩, fun y c h => ⟨_, x.cell y c h⟩, e0.hok.fresh (Nat.le_refl _), fun y c h => ?_, fun p hp => absurd (show p ∈ ([] : List (Addr × Obj)) from hp) (by simp), e0.hok.kept hk, ?_⟩
  · exact name_of_addr x.apart (PySem.mem_of_lookup h1) (PySem.mem_of_lookup h2)
  · have hy : scope.names.lookup y = some .cell ∨ scope.names.lookup y = some .free := hy
    rcases hy with hy | hy
    · exact cell_has hy
    · exact absurd rfl (S.nofree _ (PySem.mem_of_lookup hy))
  · exact Nat.le_of_lt (x.above y c (PySem.mem_of_lookup h))
  · have hi : i < vs.length := by
      unfold start at h2
      by_cases hi : i < vs.length
      · exact hi
      · rw [List.getElem?_append_right (by simpa using hi)] at h2
        rw [List.getElem?_replicate] at h2
        split at h2 <;> cases h2
    have ha : vs[i]? = some v := by
      unfold start at h2
      rw [List.getElem?_append_left (by simpa using hi), List.getElem?_map] at h2
      cases e : vs[i]? with
      | none => rw [e] at h2; cases h2
      | some a => rw [e] at h2; cases h2; rfl
    obtain ⟨u, hu, rv⟩ := r.get ha
    have hp : ps[i]? = some y := by
      rw [← S.pre, List.getElem?_take_of_lt (by omega)]; exact h1
    have ndP : ps.Nodup := by rw [← S.pre]; exact S.nd.sublist (List.take_sublist _ _)
    refine ⟨u, rv, ?_⟩
    rcases S.par y (List.mem_of_getElem? hp) with k | k
    · exact .inl ⟨k, bindL_get ndP hp hu k⟩
    · obtain ⟨c, e⟩ := cell_has (n := s.heap.objs.size + 1) k
      refine .inr ⟨.inl k, c, e, ?_⟩
      have q := x.cell y c e
      rw [bindC_get ndP hp hu (by show scope.names.lookup y ≠ _; rw [k]; decide)] at q
      exact q
  · exact e0.hok.fresh (Nat.le_of_lt (x.above y c (PySem.mem_of_lookup h)))
  · unfold start
    show _ = N.length
    rw [List.length_append, List.length_map, List.length_replicate]
    omega
theorem fn_of {CX : CXT} {P : Program} {w : World} {K : PySem.W.Frag} {mg : Str → Option Value} {base : Heap} {k : Nat} {f : Addr} {name qual : Str} {params : Arguments} {body : List Stmt} {scope : Scope} {dV kV doc pm cdv ct oc : Value} {an od : Option Addr}
    {osl : Array (Option Value)} {N ps : List Str} {sp : Sp} (lk : K.lookup f = some ⟨oc, od, .func (PySem.W.fnOf name qual params body scope dV kV doc pm an cdv ct), osl⟩) (hcd : PySem.W.codeIn K cdv qual = true) (S : FnScope N ps scope)
    (len : ∀ vs H Q E, sp vs H Q E → vs.length = ps.length)
    (hbody : ∀ (A : Around) (outer : List Env) (s : Shared) (H : Hp) (vs : List V) (Q : VK) (E : XK), Room k (A.deeper (envOfC qual scope s.heap.objs.size f cdv)) → sp vs H Q E →
      ∃ t, PSs (cxOf CX P w K mg base N qual scope f cdv A outer s H E) body t ∧ t { nx := fun _ H' => Q .non H', rt := Q } (start N vs) H) :
    FnOk P w K mg base CX (k + 1) f (PySem.W.fnOf name qual params body scope dV kV doc pm an cdv ct) ps sp := by
  refine ⟨len, fun A outer s H args us vs Q E hr e0 hb r hsp => ?_⟩
  have hl := len _ _ _ _ hsp
  have KX : K.In s.heap := e0.mod.kin.keeps fun b o e => (e0.bs b o e).1
  have lim : s.heap.NoLimit := e0.mod.nolimit.keeps fun b o e => (e0.bs b o e).1
  have hkind : ∀ y ∈ ps.zip us, scope.names.lookup y.1 = some .local ∨ (scope.names.lookup y.1 = some .cell ∧ ((cellsFrom (s.heap.objs.size + 1) scope.names []).lookup y.1).isSome = true) := fun ⟨n, v⟩ hy => by
    rcases S.par n (List.of_mem_zip hy).1 with q | q
    · exact .inl q
    · exact .inr ⟨q, PySem.W.cellsFrom_some _ _ _ (.inl q)⟩
  refine codeAny_call_function hr.depth (KX _ _ lk) rfl S.co S.gen rfl (PySem.W.codeRec_of KX hcd) (hb _ _ _ _ ?_)
  refine wpAny_newFunctionEnv_cells S.kind hkind fun env he s1 x => ?_
  subst he
  refine ⟨lim.keeps x.toInCall.keep, codeAny_func ?_⟩
  obtain ⟨t, ht, hq⟩ := hbody A outer s H vs Q E (hr.deeper _) hsp
  have I : Inv (cxOf CX P w K mg base N qual scope f cdv A outer s H E) [] (start N vs) H s1 := inv_start S hr.hd e0 hl r x
  refine wpAny_mono (ht [] s1 (start N vs) H _ I hq) (fun fl s' hs => ?_) fun e s' hs => hs
  have fin : ∀ {σ' : St} {H' : Hp} {v : V} {u : Value}, Inv (cxOf CX P w K mg base N qual scope f cdv A outer s H E) [] σ' H' s' → RelV v u → Q v H' → CE outer P w H s Q u s' :=
    fun {σ' H' v u} J rv q => ⟨v, H', J.os, J.bare, J.base, J.hok, rv, q⟩
  cases fl with
  | ret u =>
    obtain ⟨v, σ', H', J, rv, q⟩ := hs
    exact fin J rv q
  | next =>
    obtain ⟨σ', H', J, q⟩ := hs
    exact fin (v := V.non) (u := Value.none) J rfl q
  | brk =>
    obtain ⟨_, _, _, q⟩ := hs
    exact False.elim q
  | cont =>
    obtain ⟨_, _, _, q⟩ := hs
    exact False.elim q
end L2
namespace L2
open PySem PySem.Spec PyProof.Rows
section
variable {X : Cx} {x : Str} {p pos : Pos} {e : Expr} {es : List Expr} {t : TA} {id T : String} {r : List V → Hp → VK → Prop}
def tCB (r : List V → Hp → VK → Prop) (t : TA) : TE := fun σ H Q => t σ H fun vs H1 => r vs H1 Q
theorem pe_callB (hc : CallR X (.builtin id) r) (hg : Gl X x) (hm : X.mg x = none) (hv : bootBuiltins x = some (.builtin id)) (ha : PA X (e :: es) t) (hn : x ≠ "__name__" := by decide) (hdb : (x == ("__debug__" : Str)) = false := by decide)
    (he : starEach (e :: es) X.env = (false, eval e X.env) :: starEach es X.env := by rfl) (hpl : (backTo pos (starEach es X.env)).any (·.1) = false := by rfl) : PE X (.Call (.Name x p) (e :: es) [] pos) (tCB r t) := by
  intro pins s σ H Q I h
  refine wpAny_Call_Name_kw (ld_blt I hg hm hv ?_ hn hdb)
  exact PyProof.Rows.callWith_builtin1 (thn (ha pos pins s σ H _ I h) fun us s1 ⟨vs, H1, I1, r1, q1⟩ => hc pins s1 σ H1 vs us Q I1 r1 q1) he hpl
theorem pe_callTy (hc : CallR X (.type T) r) (hg : Gl X x) (hm : X.mg x = none) (hv : bootBuiltins x = some (.type T)) (ha : PA X (e :: es) t) (hn : x ≠ "__name__" := by decide) (hdb : (x == ("__debug__" : Str)) = false := by decide)
    (he : starEach (e :: es) X.env = (false, eval e X.env) :: starEach es X.env := by rfl) (hpl : (backTo pos (starEach es X.env)).any (·.1) = false := by rfl) : PE X (.Call (.Name x p) (e :: es) [] pos) (tCB r t) := by
  intro pins s σ H Q I h
  refine wpAny_Call_Name_kw (ld_blt I hg hm hv ?_ hn hdb)
  exact PyProof.Rows.callWith_type1 (thn (ha pos pins s σ H _ I h) fun us s1 ⟨vs, H1, I1, r1, q1⟩ => hc pins s1 σ H1 vs us Q I1 r1 q1) he hpl
end
end L2
namespace HT
open PySem PyProof.Rows
section
open PySem.SeqAt
open PySem.AutoSeq1 (wpAny_loadPart')
open PySem.MeetsSeq PySem.MeetsSeq2 PySem.MeetsSeq3
end
section
variable {prog : Program} {w : World} {A : Around} {E : Value → Shared → Prop} {s : Shared}
def sIx (n d : Nat) : Option Int → Nat
  | none => d
  | some v => if v < 0 then (v + (n : Int)).toNat else min v.toNat n
theorem sIx_le (n d : Nat) (hd : d ≤ n) (o : Option Int) : sIx n d o ≤ n := by
  cases o with
  | none => exact hd
  | some v =>
    show (if v < 0 then (v + (n : Int)).toNat else min v.toNat n) ≤ n
    by_cases hv : v < 0
    · rw [if_pos hv]; omega
    · rw [if_neg hv]; exact Nat.min_le_right _ _
theorem clip_eq (v : Int) (n d : Nat) : (if v < 0 then max (v + (n : Int)) 0 else min v (n : Int)) = ((sIx n d (some v) : Nat) : Int) := by
  show (if v < 0 then max (v + (n : Int)) 0 else min v (n : Int)) = (((if v < 0 then (v + (n : Int)).toNat else min v.toNat n) : Nat) : Int)
  by_cases hv : v < 0
  · simp only [if_pos hv]; omega
  · simp only [if_neg hv]; omega
theorem adjust_gen (lo hi : Option Int) (n : Nat) : Builtin.Slice.sliceAdjust lo hi 1 (n : Int) = (((sIx n 0 lo : Nat) : Int), ((sIx n n hi : Nat) : Int)) := by
  have h1 : ¬ ((1 : Int) < 0) := by omega
  unfold Builtin.Slice.sliceAdjust
  simp only [h1, if_false]
  refine Prod.ext ?_ ?_
  · cases lo with
    | none => rfl
    | some v => exact clip_eq v n 0
  · cases hi with
    | none => rfl
    | some v => exact clip_eq v n n
theorem places_gen (i j : Nat) : Builtin.Slice.slicePlaces (i : Int) (j : Int) 1 = j - i := by
  unfold Builtin.Slice.slicePlaces
  have h1 : (1 : Int) > 0 := by omega
  simp only [h1, if_true, Int.ediv_one]
  split <;> omega
theorem slicePart_ {v : Value} {o : Option Int} {Q : Option Int → Shared → Prop} (p : IsPart v o) (h : Q o s) : wpAny (model prog w) A (Builtin.Slice.slicePartIndex v) Q E s := by
  cases p with
  | none => exact slicePart_none h
  | int i t => exact slicePart_int h
theorem sliceApplied_gen {sl : Addr} {vl vu : Value} {lo hi : Option Int} {n : Nat} {Q : Int × Int × Nat → Shared → Prop} (hs : s.heap.IsSliceOf sl vl vu .none) (pl : IsPart vl lo) (pu : IsPart vu hi)
    (h : Q (((sIx n 0 lo : Nat) : Int), 1, sIx n n hi - sIx n 0 lo) s) : wpAny (model prog w) A (Builtin.Slice.sliceApplied (.ref sl) (pure (n : Int))) Q E s := by
  obtain ⟨os, hos, hcs, hds⟩ := id hs
  unfold Builtin.Slice.sliceApplied Builtin.Slice.sliceFields
  refine wpAny_bind (wpAny_bind (wpAny_field hos hds (x := vl) rfl (wpAny_bind (wpAny_field hos hds (x := vu) rfl (wpAny_bind (wpAny_field hos hds (x := .none) rfl (wpAny_pure ?_)))))))
  refine wpAny_bind (slicePart_none ?_)
  show wpAny _ _ (if ((1 : Int) == 0) = true then _ else _) _ _ s
  rw [if_neg (by decide)]
  refine wpAny_bind (slicePart_ pl (wpAny_bind (slicePart_ pu (wpAny_bind (wpAny_pure ?_)))))
  show wpAny _ _ (match Builtin.Slice.sliceAdjust lo hi 1 (n : Int) with | (lo, hi) => pure (lo, (1 : Int), Builtin.Slice.slicePlaces lo hi 1)) _ _ s
  rw [adjust_gen lo hi n]
  show wpAny _ _ (pure (((sIx n 0 lo : Nat) : Int), (1 : Int), Builtin.Slice.slicePlaces ((sIx n 0 lo : Nat) : Int) ((sIx n n hi : Nat) : Int) 1)) _ _ s
  rw [places_gen]
  exact wpAny_pure h
theorem pick_gen (xs : Array Value) (i k : Nat) : ((List.range k).filterMap fun (m : Nat) => xs[((i : Int) + (m : Int) * 1).toNat]?).toArray = ((xs.toList.drop i).take k).toArray := by
  have e : (fun (m : Nat) => xs[((i : Int) + (m : Int) * 1).toNat]?) = fun m => xs[i + m]? := by
    funext m
    have : ((i : Int) + (m : Int) * 1).toNat = i + m := by omega
    rw [this]
  rw [e]
  have := pick_run xs i k
  rw [List.filterMap_map] at this
  have e2 : ((fun x => xs[x]?) ∘ fun x => i + x) = fun m => xs[i + m]? := rfl
  rw [e2] at this
  rw [this]
theorem getItem_tuple_cut {t sl : Addr} {items : Array Value} {vl vu : Value} {lo hi : Option Int} {Q : Value → Shared → Prop} (ht : IsTup s.heap t items) (hs : s.heap.IsSliceOf sl vl vu .none) (pl : IsPart vl lo) (pu : IsPart vu hi)
    (hw : ¬ (sIx items.size 0 lo = 0 ∧ sIx items.size items.size hi = items.size))
    (h : Q (.ref s.heap.objs.size) { s with heap := s.heap.push { cls := .type "tuple", data := .seq ((items.toList.drop (sIx items.size 0 lo)).take (sIx items.size items.size hi - sIx items.size 0 lo)).toArray } })
    (hsz : items.size ≤ sizeLine) : wpAny (model prog w) A (getItem (.ref t) (.ref sl)) Q E s := by
  have htake : sizeOk (.seq ((items.toList.drop (sIx items.size 0 lo)).take (sIx items.size items.size hi - sIx items.size 0 lo)).toArray) := by
    show ((items.toList.drop (sIx items.size 0 lo)).take (sIx items.size items.size hi - sIx items.size 0 lo)).toArray.size ≤ sizeLine
    rw [List.size_toArray, List.length_take, List.length_drop, Array.length_toList]
    omega
  have hj : sIx items.size items.size hi ≤ items.size := sIx_le _ _ (Nat.le_refl _) hi
  obtain ⟨os, hos, hcs, hds⟩ := id hs
  have hTs : s.TypeIs (.ref sl) "slice" := ⟨os, hos, hcs⟩
  unfold getItem
  try with_reducible refine wpAny_holding ?_
  first | refine wpAny_bind (wpAny_pure ?_) | skip
  refine wpAny_bind (wpAny_sequenceKey ht.typeIs (by decide) ?_)
  refine wpAny_bind (wpAny_callSpecial?_slot (name := Str.ofString "__getitem__") ht.typeIs PyProof.Rows.slot_tuple_getitem
    (wpAny_call_entry PyProof.Rows.slot_tuple_getitem ht.typeIs entry_tuple_getitem ?_ (args_tuple_getitem _ _)))
  show wpAny _ _ (Builtin.Tuple.tupleItemsOf (.ref t) >>= _) _ _ s
  refine wpAny_bind (tupleItemsOf_ ht ?_)
  refine wpAny_bind (wpAny_typeOf hTs ?_)
  rw [if_pos (by decide)]
  refine wpAny_bind (sliceApplied_gen hs pl pu ?_)
  have hno : ¬ ((((sIx items.size 0 lo : Nat) : Int) == 0 && (1 : Int) == 1 && (sIx items.size items.size hi - sIx items.size 0 lo) == items.size) = true) := by
    intro q
    rw [Bool.and_eq_true, Bool.and_eq_true] at q
    have q1 : ((sIx items.size 0 lo : Nat) : Int) = 0 := eq_of_beq q.1.1
    have q2 : sIx items.size items.size hi - sIx items.size 0 lo = items.size := eq_of_beq q.2
    exact hw ⟨by omega, by omega⟩
  show wpAny _ _ (if (((sIx items.size 0 lo : Nat) : Int) == 0 && (1 : Int) == 1 && (sIx items.size items.size hi - sIx items.size 0 lo) == items.size) = true then _ else _) _ _ s
  rw [if_neg hno, pick_gen]
  first
    | exact wpAny_bind (m := Builtin.Tuple.tupleExact _) (wpAny_newObj_type (wpAny_pure ⟨_, rfl, wpAny_pure h⟩) htake)
    | exact wpAny_bind (m := Builtin.Tuple.tupleExact _) (wpAny_newObj_type (wpAny_bind (wpAny_pure (wpAny_pure ⟨_, rfl, wpAny_pure h⟩))) htake)
    | exact wpAny_bind (wpAny_bind (m := Builtin.Tuple.tupleExact _) (wpAny_newObj_type (wpAny_pure (wpAny_pure ⟨_, rfl, wpAny_pure h⟩)) htake))
    | exact wpAny_bind (wpAny_bind (m := Builtin.Tuple.tupleExact _) (wpAny_newObj_type (wpAny_pure ⟨_, rfl, wpAny_pure h⟩) htake))
end
end HT
namespace L2
open PySem PySem.Spec PyProof.Rows
abbrev TO := St → Hp → (Option Int → Hp → Prop) → Prop
def PO (X : Cx) (e : Option Expr) (t : TO) : Prop :=
  ∀ (pins : List (Addr × Obj)) (s : Shared) (σ : St) (H : Hp) (Q : Option Int → Hp → Prop), Inv X pins σ H s → t σ H Q →
    wpAny (model X.prog X.w) X.A (evalPart e X.env) (fun u s' => ∃ o H', Inv X pins σ H' s' ∧ IsPart u o ∧ Q o H') X.xe s
def tNoPart : TO := fun _ H Q => Q none H
def tPart (t : TE) : TO := fun σ H Q => t σ H fun x H1 => ∃ i, x = .int i ∧ Q (some i) H1
theorem intsAre_of {ns : List Int} : ∀ {us : List Value}, Vals (ns.map V.int) us → IntsAre us ns := by
  induction ns with
  | nil => intro us r; rw [List.map_nil] at r; cases r; exact .nil
  | cons n ns ih =>
    intro us r
    rw [List.map_cons] at r
    cases r with
    | cons r1 r2 =>
      obtain ⟨t, e⟩ := r1
      subst e
      exact .cons n t (ih r2)
section
variable {X : Cx} {e : Expr} {te : TE} {lo hi : Option Expr} {tl th : TO} {pos p2 : Pos}
theorem po_none : PO X none tNoPart := by
  intro pins s σ H Q I h
  rw [evalPart_none]
  exact wpAny_pure ⟨none, H, I, .none, h⟩
theorem po_some (h : PE X e te) : PO X (some e) (tPart te) := by
  intro pins s σ H Q I hw
  rw [evalPart_some]
  refine thn (h pins s σ H _ I hw) fun u s1 ⟨x, H1, I1, r1, q1⟩ => ?_
  obtain ⟨i, rfl, q⟩ := q1
  obtain ⟨t, rfl⟩ := r1
  exact ⟨some i, H1, I1, .int i t, q⟩
def SlR (X : Cx) (r : V → Option Int → Option Int → Hp → VK → Prop) : Prop :=
  ∀ (pins : List (Addr × Obj)) (s : Shared) (σ : St) (H : Hp) (x : V) (v vl vu : Value) (lo hi : Option Int) (sl : Addr) (Q : VK), Inv X pins σ H s → RelV x v → s.heap.IsSliceOf sl vl vu .none → IsPart vl lo → IsPart vu hi → r x lo hi H Q →
    ∃ T id, typeLookup (.type T) "__getitem__" = pure (some (.builtin id)) ∧ s.TypeIs v T ∧ wpAny (model X.prog X.w) X.A (getItem v (.ref sl)) (EP X pins σ Q) X.xe s
theorem SlR.or {r r' : V → Option Int → Option Int → Hp → VK → Prop} (h : SlR X r) (h' : SlR X r') : SlR X (fun x lo hi H Q => r x lo hi H Q ∨ r' x lo hi H Q) := by
  intro pins s σ H x v vl vu lo hi sl Q I rx hs pl pu q
  rcases q with q | q
  · exact h pins s σ H x v vl vu lo hi sl Q I rx hs pl pu q
  · exact h' pins s σ H x v vl vu lo hi sl Q I rx hs pl pu q
def tSl (r : V → Option Int → Option Int → Hp → VK → Prop) (te : TE) (tl th : TO) : TE := fun σ H Q => te σ H fun x H1 => tl σ H1 fun l H2 => th σ H2 fun u H3 => r x l u H3 Q
theorem pe_slice {r : V → Option Int → Option Int → Hp → VK → Prop} (hr : SlR X r) (he : PE X e te) (hl : PO X lo tl) (hu : PO X hi th) : PE X (.Subscript e (.Slice lo hi none p2) pos) (tSl r te tl th) := by
  intro pins s σ H Q I h
  refine Subscript_ (thn (he pins s σ H _ I h) fun v s1 ⟨x, H1, I1, r1, q1⟩ => ?_)
  refine wpAny_Slice (thn (hl pins s1 σ H1 _ I1 q1) fun vl s2 ⟨l, H2, I2, pl, q2⟩ => thn (hu pins s2 σ H2 _ I2 q2) fun vu s3 ⟨u, H3, I3, pu, q3⟩ => ?_)
  rw [evalPart_none]
  refine wpAny_pure ?_
  have I4 : Inv X pins σ H3 { s3 with heap := s3.heap.push { cls := .type "slice", data := .fields #[vl, vu, .none] } } := I3.kept (t' := s3.toks) fun b ob q => Heap.get?_push_of_some _ q
  obtain ⟨T, id, hT, ht, hg⟩ := hr pins { s3 with heap := s3.heap.push { cls := .type "slice", data := .fields #[vl, vu, .none] } } σ H3 x v vl vu l u s3.heap.objs.size Q I4 r1 (Heap.IsSliceOf.new ..) pl pu q3
  show wpAny (model X.prog X.w) X.A (subscriptTail e (.Slice lo hi none p2) v (.ref s3.heap.objs.size)) (EP X pins σ Q) X.xe { s3 with heap := s3.heap.push { cls := .type "slice", data := .fields #[vl, vu, .none] } }
  exact tail_any (ops := [.ref s3.heap.objs.size, v]) ht hT hg (by with_unfolding_all rfl)
def cutV (xs : List V) (lo hi : Option Int) : List V := (xs.drop (HT.sIx xs.length 0 lo)).take (HT.sIx xs.length xs.length hi - HT.sIx xs.length 0 lo)
theorem cutV_length (xs : List V) (lo hi : Option Int) : (cutV xs lo hi).length ≤ xs.length := by
  unfold cutV
  rw [List.length_take, List.length_drop]
  omega
def rSlT (K : PySem.W.Frag) : V → Option Int → Option Int → Hp → VK → Prop := fun x lo hi H Q => ∃ a xs, x = .ref a ∧ SqT K H a xs ∧
  ¬ (HT.sIx xs.length 0 lo = 0 ∧ HT.sIx xs.length xs.length hi = xs.length) ∧ ∀ p, H p = none → Q (.ref p) (upd H p (.tup (cutV xs lo hi)))
theorem sl_tup : SlR X (rSlT X.K) := by
  intro pins s σ H x v vl vu lo hi sl Q I rx hs pl pu h
  obtain ⟨a, xs, rfl, hx, hw, q⟩ := h
  cases rx
  obtain ⟨its, r, ht, hz⟩ := I.tuple hx
  have hlen : its.toArray.size = xs.length := by rw [List.size_toArray]; exact r.length.symm
  refine ⟨"tuple", _, PyProof.Rows.slot_tuple_getitem.lookup, ht.typeIs, ?_⟩
  refine HT.getItem_tuple_cut ht hs pl pu (by rw [hlen]; exact hw) ?_ (by rw [hlen]; exact hz)
  rw [hlen]
  refine ⟨.ref s.heap.objs.size, _, I.laid (t' := s.toks) (o := .tup (cutV xs lo hi)) (fun b ob q => Heap.get?_push_of_some _ q) (Nat.le_refl _) ?_, rfl, q _ (I.hok.fresh (Nat.le_refl _))⟩
  exact ⟨Nat.le_trans (cutV_length xs lo hi) hz, _, (r.drop (HT.sIx xs.length 0 lo)).take (HT.sIx xs.length xs.length hi - HT.sIx xs.length 0 lo), IsTup.new _ _⟩
end
end L2
namespace L2
open PySem PySem.Spec PyProof.Rows
def ixN (n : Nat) (i : Int) : Option Nat := if 0 ≤ i then (if i < n then some i.toNat else none) else if -(n : Int) ≤ i then some (i + n).toNat else none
def atI {α : Type} (xs : List α) (i : Int) : Option α := (ixN xs.length i).bind fun j => xs[j]?
theorem ixN_seq {n : Nat} {i : Int} {j : Nat} (h : ixN n i = some j) : seqIndex? i n = some j ∧ j < n ∧ -(n : Int) ≤ i ∧ i < n := by
  unfold ixN at h
  by_cases h0 : 0 ≤ i
  · rw [if_pos h0] at h
    by_cases h1 : i < n
    · rw [if_pos h1] at h
      have e : i.toNat = j := Option.some.inj h
      exact ⟨by rw [seqIndex_of h0 h1, e], by omega, by omega, h1⟩
    · rw [if_neg h1] at h; cases h
  · rw [if_neg h0] at h
    by_cases h1 : -(n : Int) ≤ i
    · rw [if_pos h1] at h
      have e : (i + n).toNat = j := Option.some.inj h
      exact ⟨by rw [seqIndex_neg (by omega) h1, e], by omega, h1, by omega⟩
    · rw [if_neg h1] at h; cases h
theorem atI_get {α : Type} {xs : List α} {i : Int} {v : α} (h : atI xs i = some v) : ∃ j, seqIndex? i xs.length = some j ∧ xs[j]? = some v ∧ j < xs.length ∧ -(xs.length : Int) ≤ i ∧ i < xs.length := by
  unfold atI at h
  cases e : ixN xs.length i with
  | none => rw [e] at h; cases h
  | some j =>
    rw [e] at h
    obtain ⟨h1, h2, h3, h4⟩ := ixN_seq e
    exact ⟨j, h1, h, h2, h3, h4⟩
theorem atI_nat {α : Type} {xs : List α} {j : Nat} {v : α} (h : xs[j]? = some v) : atI xs (j : Int) = some v := by
  have hj : j < xs.length := (List.getElem?_eq_some_iff.mp h).1
  have e : ixN xs.length (j : Int) = some j := by
    unfold ixN
    rw [if_pos (by omega), if_pos (by omega)]; simp
  unfold atI; rw [e]; exact h
def PlainIx (b : Expr) : Prop := ∀ o i, subscripted b false o i = operate [o, i] (getItem o i)
def IxR (X : Cx) (r : R2) : Prop :=
  ∀ (value slice : Expr) (pins : List (Addr × Obj)) (s : Shared) (σ : St) (H : Hp) (x y : V) (v u : Value) (Q : VK), Inv X pins σ H s → RelV x v → RelV y u → r x y H Q →
    subscripted slice false v u = operate [v, u] (getItem v u) → wpAny (model X.prog X.w) X.A (subscriptTail value slice v u) (EP X pins σ Q) X.xe s
def MtR (X : Cx) (id : String) (r : V → List V → Hp → VK → Prop) : Prop :=
  ∀ (pins : List (Addr × Obj)) (s : Shared) (σ : St) (H : Hp) (x : V) (xs : List V) (v : Value) (us : List Value) (Q : VK), Inv X pins σ H s → RelV x v → Vals xs us → r x xs H Q →
    wpAny (model X.prog X.w) X.A (call (.builtin id) (v :: us)) (EP X pins σ Q) X.xe s
section
variable {X : Cx} {a b : Expr} {ta tb : TE} {pos : Pos}
theorem IxR.or {r r' : R2} (h : IxR X r) (h' : IxR X r') : IxR X (fun x y H Q => r x y H Q ∨ r' x y H Q) := by
  intro value slice pins s σ H x y v u Q I rx ry q hs
  rcases q with q | q
  · exact h value slice pins s σ H x y v u Q I rx ry q hs
  · exact h' value slice pins s σ H x y v u Q I rx ry q hs
theorem MtR.or {id : String} {r r' : V → List V → Hp → VK → Prop} (h : MtR X id r) (h' : MtR X id r') : MtR X id (fun x xs H Q => r x xs H Q ∨ r' x xs H Q) := by
  intro pins s σ H x xs v us Q I rx rs q
  rcases q with q | q
  · exact h pins s σ H x xs v us Q I rx rs q
  · exact h' pins s σ H x xs v us Q I rx rs q
theorem pe_ix {r : R2} (hr : IxR X r) (ha : PE X a ta) (hb : PE X b tb) (hs : PlainIx b) : PE X (.Subscript a b pos) (tOp r ta tb) := by
  intro pins s σ H Q I h
  exact Subscript_ (binT ha hb I h fun v u s2 x y H2 I2 rx ry q => hr a b pins s2 σ H2 x y v u Q I2 rx ry q (hs _ _))
def rIxL (K : PySem.W.Frag) : R2 := fun x y H Q => ∃ p xs i v, x = .ref p ∧ y = .int i ∧ SqL K H p xs ∧ atI xs i = some v ∧ Q v H
def rIxT (K : PySem.W.Frag) : R2 := fun x y H Q => ∃ p xs i v, x = .ref p ∧ y = .int i ∧ SqT K H p xs ∧ atI xs i = some v ∧ Q v H
theorem ix_list : IxR X (rIxL X.K) := by
  intro value slice pins s σ H x y v u Q I rx ry h hs
  obtain ⟨p, xs, i, z, rfl, rfl, hq, he, q⟩ := h
  cases rx
  obtain ⟨t, rfl⟩ := ry
  obtain ⟨its, r, pl, hz⟩ := I.list hq
  obtain ⟨j, h1, h2, h3, h4, h5⟩ := atI_get he
  obtain ⟨w, ew, rw'⟩ := r.get h2
  have hl := r.length
  have hn := line63
  have fin : EP X pins σ Q w s := ⟨z, H, I, rw', q⟩
  by_cases h0 : 0 ≤ i
  · have hj : i.toNat = j := by
      rw [seqIndex_of h0 h5] at h1
      exact Option.some.inj h1
    exact item_listR pl.isList h0 (by omega) (by rw [hj]; simpa using ew) fin hs
  · have hj : (i + (its.toArray.size : Int)).toNat = j := by
      rw [seqIndex_neg (by omega) h4] at h1
      rw [List.size_toArray, ← hl]
      exact Option.some.inj h1
    exact subscriptTail_builtinR (x := w) pl.isList.typeIs slot_list_getitem.lookup
      (wpAny_getItem_list_neg (Q := fun r s' => r = w ∧ EP X pins σ Q r s') pl.isList (by omega) (by rw [List.size_toArray] <;> omega) (by omega) (by rw [hj]; simpa using ew) ⟨rfl, fin⟩) hs
theorem ix_tup : IxR X (rIxT X.K) := by
  intro value slice pins s σ H x y v u Q I rx ry h hs
  obtain ⟨p, xs, i, z, rfl, rfl, hq, he, q⟩ := h
  cases rx
  obtain ⟨t, rfl⟩ := ry
  obtain ⟨its, r, pl, hz⟩ := I.tuple hq
  obtain ⟨j, h1, h2, h3, h4, h5⟩ := atI_get he
  obtain ⟨w, ew, rw'⟩ := r.get h2
  have hl := r.length
  have hn := line63
  have fin : EP X pins σ Q w s := ⟨z, H, I, rw', q⟩
  exact subscriptTail_builtinR (x := w) pl.typeIs slot_tuple_getitem.lookup
    (getItem_tuple (j := j) (Q := fun r s' => r = w ∧ EP X pins σ Q r s') pl (by omega) (by omega) (by rw [List.size_toArray, ← hl]; exact h1) (by simpa using ew) ⟨rfl, fin⟩) hs
theorem Inv.lst {pins : List (Addr × Obj)} {σ : St} {H : Hp} {s : Shared} {p : Addr} {xs : List V} (I : Inv X pins σ H s) (h : H p = some (.lst xs)) :
    ∃ (its : List Value) (n : Nat), Vals xs its ∧ s.heap.get? p = some { cls := .type "list", data := .seq its.toArray n } ∧ xs.length ≤ sizeLine := by
  obtain ⟨z, its, n, r, e⟩ := I.hok p _ h
  exact ⟨its, n, r, e, z⟩
def rSetL : V → V → V → Hp → (Hp → Prop) → Prop := fun o i v H Q => ∃ p xs k j, o = .ref p ∧ i = .int k ∧ H p = some (.lst xs) ∧ ixN xs.length k = some j ∧ Q (upd H p (.lst (xs.set j v)))
theorem slice_bounds (lo hi : Option Int) (n : Nat) : (sliceBounds lo hi none n).1 = ((HT.sIx n 0 lo : Nat) : Int) ∧ (sliceBounds lo hi none n).2.1 = ((HT.sIx n n hi : Nat) : Int) ∧ (sliceBounds lo hi none n).2.2 = 1 := by
  refine ⟨?_, ?_, rfl⟩
  · cases lo with
    | none => simp [sliceBounds, HT.sIx]
    | some i =>
      simp only [sliceBounds, HT.sIx, Option.getD_none, show (1 : Int) > 0 by decide, if_true]
      by_cases h : i < 0
      · simp only [h, if_true] <;> omega
      · simp only [h, if_false] <;> omega
  · cases hi with
    | none => simp [sliceBounds, HT.sIx]
    | some i =>
      simp only [sliceBounds, HT.sIx, Option.getD_none, show (1 : Int) > 0 by decide, if_true]
      by_cases h : i < 0
      · simp only [h, if_true] <;> omega
      · simp only [h, if_false] <;> omega
theorem slicePick_cut (its : List Value) (lo hi : Option Int) : slicePick its.toArray lo hi none = ((its.drop (HT.sIx its.length 0 lo)).take (HT.sIx its.length its.length hi - HT.sIx its.length 0 lo)).toArray := by
  obtain ⟨h1, h2, h3⟩ := slice_bounds lo hi its.toArray.size
  unfold slicePick
  rw [h1, h2, h3]
  simp only [sliceRange_one, pick_run, List.size_toArray] <;> rfl
def rSlL (K : PySem.W.Frag) : V → Option Int → Option Int → Hp → VK → Prop := fun x lo hi H Q => ∃ a xs, x = .ref a ∧ SqL K H a xs ∧ ∀ p, H p = none → Q (.ref p) (upd H p (.lst (cutV xs lo hi)))
theorem sl_list : SlR X (rSlL X.K) := by
  intro pins s σ H x v vl vu lo hi sl Q I rx hs pl pu h
  obtain ⟨a, xs, rfl, hx, q⟩ := h
  cases rx
  obtain ⟨its, r, ht, hz⟩ := I.list hx
  have hlen := r.length
  refine ⟨"list", _, slot_list_getitem.lookup, ht.isList.typeIs, ?_⟩
  refine wpAny_getItem_list_slice ht.isList hs pl pu .none (by simp) ?_ (by rw [List.size_toArray] <;> omega)
  rw [slicePick_cut, ← hlen]
  refine ⟨.ref s.heap.objs.size, _, I.laid (t' := s.toks) (o := .lst (cutV xs lo hi)) (fun b ob q => Heap.get?_push_of_some _ q) (Nat.le_refl _) ?_, rfl, q _ (I.hok.fresh (Nat.le_refl _))⟩
  exact ⟨Nat.le_trans (cutV_length xs lo hi) hz, _, 0, (r.drop (HT.sIx xs.length 0 lo)).take (HT.sIx xs.length xs.length hi - HT.sIx xs.length 0 lo), Heap.get?_push_size _ rfl⟩
def flatV : V → Bool
  | .non => true
  | .bl _ => true
  | .int _ => true
  | .str _ => true
  | _ => false
def eqV : V → V → Bool
  | .non, .non => true
  | .bl a, .bl b => a == b
  | .bl a, .int b => (if a then 1 else 0) == b
  | .int a, .bl b => a == (if b then 1 else 0)
  | .int a, .int b => a == b
  | .str a, .str b => a == b
  | _, _ => false
theorem eqAt_V {A : Around} {s : Shared} {y x : V} {u v : Value} (ry : RelV y u) (rx : RelV x v) (fy : flatV y = true) (fx : flatV x = true) : SeqAt.EqAt A s u v (eqV y x) := by
  cases y with
  | non =>
    cases ry
    cases x with
    | non => cases rx; exact SeqAt.EqAt.same _
    | bl b => cases rx; exact SeqAt.EqAt.none_bool b
    | int b => obtain ⟨t, rfl⟩ := rx; exact SeqAt.EqAt.none_int b t
    | str b => obtain ⟨t, rfl⟩ := rx; exact SeqAt.EqAt.none_str b t
    | _ => exact absurd (show false = true from fx) Bool.false_ne_true
  | bl a =>
    cases ry
    cases x with
    | non => cases rx; exact SeqAt.EqAt.bool_none a
    | bl b => cases rx; exact SeqAt.EqAt.bool_bool a b
    | int b => obtain ⟨t, rfl⟩ := rx; exact SeqAt.EqAt.bool_int a b t
    | str b => obtain ⟨t, rfl⟩ := rx; exact SeqAt.EqAt.bool_str a b t
    | _ => exact absurd (show false = true from fx) Bool.false_ne_true
  | int a =>
    obtain ⟨t', rfl⟩ := ry
    cases x with
    | non => cases rx; exact SeqAt.EqAt.int_none a t'
    | bl b => cases rx; exact SeqAt.EqAt.int_bool a t' b
    | int b => obtain ⟨t, rfl⟩ := rx; exact SeqAt.EqAt.int_int a t' b t
    | str b => obtain ⟨t, rfl⟩ := rx; exact SeqAt.EqAt.int_str a t' b t
    | _ => exact absurd (show false = true from fx) Bool.false_ne_true
  | str a =>
    obtain ⟨t', rfl⟩ := ry
    cases x with
    | non => cases rx; exact SeqAt.EqAt.str_none a t'
    | bl b => cases rx; exact SeqAt.EqAt.str_bool a t' b
    | int b => obtain ⟨t, rfl⟩ := rx; exact SeqAt.EqAt.str_int a t' b t
    | str b => obtain ⟨t, rfl⟩ := rx; exact SeqAt.EqAt.str_str a t' b t
    | _ => exact absurd (show false = true from fx) Bool.false_ne_true
  | _ => exact absurd (show false = true from fy) Bool.false_ne_true
def eqU (x : V) (u : Value) : Bool := match u with
  | .none => eqV .non x
  | .bool b => eqV (.bl b) x
  | .int i _ => eqV (.int i) x
  | .str z _ => eqV (.str z) x
  | _ => false
theorem eqU_of {x y : V} {u : Value} (r : RelV y u) (f : flatV y = true) : eqU x u = eqV y x := by
  cases y with
  | non => cases r; rfl
  | bl b => cases r; rfl
  | int i => obtain ⟨t, rfl⟩ := r; rfl
  | str z => obtain ⟨t, rfl⟩ := r; rfl
  | _ => exact absurd (show false = true from f) Bool.false_ne_true
theorem any_eqU {x : V} : ∀ {xs : List V} {us : List Value}, Vals xs us → xs.all flatV = true → us.any (eqU x) = xs.any fun y => eqV y x
  | _, _, .nil, _ => rfl
  | y :: xs, u :: us, .cons r t, f => by
    rw [List.all_cons, Bool.and_eq_true] at f
    rw [List.any_cons, List.any_cons, eqU_of r f.1, any_eqU t f.2]
theorem mem_eqAt {A : Around} {s : Shared} {x : V} {v : Value} (rx : RelV x v) (fx : flatV x = true) : ∀ {xs : List V} {us : List Value}, Vals xs us → xs.all flatV = true → ∀ u ∈ us, SeqAt.EqAt A s u v (eqU x u)
  | _, _, .nil, _ => fun u hu => by cases hu
  | y :: xs, u :: us, .cons r t, f => fun u' hu => by
    rw [List.all_cons, Bool.and_eq_true] at f
    rcases List.mem_cons.mp hu with rfl | hu
    · rw [eqU_of r f.1]; exact eqAt_V r rx f.1 fx
    · exact mem_eqAt rx fx t f.2 u' hu
def inV (x : V) (xs : List V) : Bool := xs.any fun y => eqV y x
def rIn (K : PySem.W.Frag) (neg : Bool) : R2 := fun x y H Q => ∃ p xs, y = .ref p ∧ (SqL K H p xs ∨ SqT K H p xs) ∧ flatV x = true ∧ xs.all flatV = true ∧ Q (.bl (if neg then !inV x xs else inV x xs)) H
theorem op_in_seq : OpR X (compareOp .In) (rIn X.K false) := by
  intro pins s σ H x y v u Q I rx ry h
  obtain ⟨p, xs, rfl, hq, fx, fs, q⟩ := h
  cases ry
  rcases hq with hq | hq
  · obtain ⟨its, r, pl, hz⟩ := I.list hq
    refine SeqAt.in_listAt (eqU x) pl.isList (fun w hw => mem_eqAt rx fx r fs w (by simpa using hw)) ⟨.bl _, H, I, rfl, ?_⟩
    rw [show its.toArray.any (eqU x) = its.any (eqU x) by simp, any_eqU r fs]
    exact q
  · obtain ⟨its, r, pl, hz⟩ := I.tuple hq
    refine SeqAt.in_tupleAt (eqU x) pl (fun w hw => mem_eqAt rx fx r fs w (by simpa using hw)) ⟨.bl _, H, I, rfl, ?_⟩
    rw [show its.toArray.any (eqU x) = its.any (eqU x) by simp, any_eqU r fs]
    exact q
theorem call_len_seq : CallR X (.builtin "len") (fun xs H Q => ∃ p ys, xs = [.ref p] ∧ (SqL X.K H p ys ∨ SqT X.K H p ys) ∧ Q (.int ys.length) H) := by
  intro pins s σ H xs us Q I r h
  obtain ⟨p, ys, rfl, hq, q⟩ := h
  obtain ⟨u, rfl, rx⟩ := vals1 r
  cases rx
  have hn := line63
  rcases hq with hq | hq
  · obtain ⟨its, r', pl, hz⟩ := I.list hq
    have hlen := r'.length
    exact Calls.call_len_list pl.isList (by simp only [List.size_toArray] <;> omega) ⟨.int ys.length, H, I.tok _, ⟨s.toks + 1, by rw [List.size_toArray, hlen]⟩, q⟩
  · obtain ⟨its, r', pl, hz⟩ := I.tuple hq
    have hlen := r'.length
    exact len_tuple pl (by simp only [List.size_toArray] <;> omega) ⟨.int ys.length, H, I.tok _, ⟨s.toks + 1, by rw [List.size_toArray, hlen]⟩, q⟩
theorem CallR.or {f : Value} {r r' : List V → Hp → VK → Prop} (h : CallR X f r) (h' : CallR X f r') : CallR X f (fun xs H Q => r xs H Q ∨ r' xs H Q) := by
  intro pins s σ H xs us Q I rs q
  rcases q with q | q
  · exact h pins s σ H xs us Q I rs q
  · exact h' pins s σ H xs us Q I rs q
theorem call_tuple_of : CallR X (.type "tuple") (fun xs H Q => ∃ p ys, xs = [.ref p] ∧ ((SqL X.K H p ys ∧ ∀ l, H l = none → Q (.ref l) (upd H l (.tup ys))) ∨ (SqT X.K H p ys ∧ Q (.ref p) H))) := by
  intro pins s σ H xs us Q I r h
  obtain ⟨p, ys, rfl, h⟩ := h
  obtain ⟨u, rfl, rx⟩ := vals1 r
  cases rx
  rcases h with ⟨hq, q⟩ | ⟨hq, q⟩
  · obtain ⟨its, r', pl, hz⟩ := I.list hq
    have hlen := r'.length
    refine call_tuple_list pl.isList (fun h' kp => ?_) (by simp only [List.size_toArray] <;> omega)
    have I1 : Inv X pins σ H { s with heap := h' } := I.kept (t' := s.toks) kp
    have I2 : Inv X pins σ (upd H h'.objs.size (.tup ys)) { s with heap := h'.push { cls := .type "tuple", data := .seq its.toArray } } :=
      I1.laid (t' := s.toks) (fun b o e => Heap.get?_push_of_some _ e) (Nat.le_refl _) (show ObjOk X.prog X.w _ _ _ (.tup ys) from ⟨hz, its, r', IsTup.new _ _⟩)
    exact ⟨.ref h'.objs.size, _, I2, rfl, q _ (I1.hok.fresh (Nat.le_refl _))⟩
  · obtain ⟨its, r', pl, hz⟩ := I.tuple hq
    exact call_tuple_same pl ⟨.ref p, H, I, rfl, q⟩
def tyV (K : PySem.W.Frag) (T : String) (x : V) (H : Hp) : Prop := match x with
  | .str _ => T = "str"
  | .int _ => T = "int"
  | .ref p => (T = "list" ∧ ∃ xs, SqL K H p xs) ∨ (T = "tuple" ∧ ∃ o, K.lookup p = some o ∧ o.cls = .type "tuple" ∧ o.dict = none) ∨
      (T = "dict" ∧ ((∃ kvs, H p = some (.dK kvs)) ∨ ∃ kvs, H p = some (.dT kvs))) ∨ (T = "set" ∧ ∃ S n, H p = some (.set S n))
  | _ => False
theorem tyV_is {pins : List (Addr × Obj)} {σ : St} {H : Hp} {s : Shared} {T : String} {x : V} {v : Value} (I : Inv X pins σ H s) (r : RelV x v) (ty : tyV X.K T x H) :
    s.TypeIs v T ∧ ∀ a, v = .ref a → ∃ ob, s.heap.get? a = some ob ∧ ob.dict = none := by
  cases x with
  | str z =>
    obtain ⟨t, rfl⟩ := r
    cases (show T = "str" from ty)
    exact ⟨typeIs_str s z t, fun _ e => nomatch e⟩
  | int i =>
    obtain ⟨t, rfl⟩ := r
    cases (show T = "int" from ty)
    exact ⟨typeIs_int s i t, fun _ e => nomatch e⟩
  | ref p =>
    cases r
    rcases ty with ⟨rfl, xs, hq⟩ | ⟨rfl, o, hk, hc, hd⟩ | ⟨rfl, hk⟩ | ⟨rfl, S, n, hk⟩
    · obtain ⟨its, _, pl, _⟩ := I.list hq
      refine ⟨pl.isList.typeIs, fun a e => ?_⟩
      cases e
      obtain ⟨o, n, e, c, hd, _⟩ := pl
      exact ⟨o, e, hd⟩
    · refine ⟨⟨o, I.kIn p o hk, hc⟩, fun a e => ?_⟩
      cases e
      exact ⟨o, I.kIn _ o hk, hd⟩
    · have z : ∃ o, s.heap.get? p = some o ∧ o.ExactDict := by
        rcases hk with ⟨kvs, hk⟩ | ⟨kvs, hk⟩
        · obtain ⟨_, _, _, _, o, _, _, e, ex, _⟩ := I.hok p _ hk
          exact ⟨o, e, ex⟩
        · obtain ⟨_, _, _, _, o, _, _, e, ex, _⟩ := I.hok p _ hk
          exact ⟨o, e, ex⟩
      obtain ⟨o, e, ex⟩ := z
      refine ⟨⟨o, e, ex.1⟩, fun a e2 => ?_⟩
      cases e2
      exact ⟨o, e, ex.2.1⟩
    · obtain ⟨o, _, _, _, e, ex, _⟩ := I.hok p _ hk
      refine ⟨⟨o, e, ex.1⟩, fun a e2 => ?_⟩
      cases e2
      exact ⟨o, e, ex.2.1⟩
  | _ => exact False.elim ty
def tBM0 (K : PySem.W.Frag) (T : String) (r : V → List V → Hp → VK → Prop) (to : TE) : TE := fun σ H Q => to σ H fun x H1 => tyV K T x H1 ∧ r x [] H1 Q
def tBM (K : PySem.W.Frag) (T : String) (r : V → List V → Hp → VK → Prop) (to : TE) (t : TA) : TE := fun σ H Q => to σ H fun x H1 => tyV K T x H1 ∧ t σ H1 fun xs H2 => r x xs H2 Q
variable {o e : Expr} {es : List Expr} {to : TE} {t : TA} {name : Str} {apos cpos : Pos} {T id : String} {r : V → List V → Hp → VK → Prop}
theorem pe_bm (pa : PlainAttrs T) (slot : Slot T name id) (hty : typeOf (.builtin id) = pure (.type "method_descriptor")) (hm : MtR X id r) (ho : PE X o to) (ha : PA X (e :: es) t)
    (hbase : attributeBase o name X.env (eval o X.env) = eval o X.env := by rfl)
    (hfew : ((backTo cpos (starEach (e :: es) X.env)).all (fun x => !x.1) && (backToKw cpos (keywordEach [] X.env)).all (fun x => x.1.isSome)
      && decide ((e :: es).length + ([] : List Keyword).length + (if ([] : List Keyword).isEmpty then 0 else 1) < 30)) = true := by rfl)
    (hline : (apos.endLine == cpos.line) = true := by rfl) (hs : starEach (e :: es) X.env = (false, eval e X.env) :: starEach es X.env := by rfl) (hplain : (backTo cpos (starEach es X.env)).any (·.1) = false := by rfl) :
    PE X (.Call (.Attribute o name apos) (e :: es) [] cpos) (tBM X.K T r to t) := by
  intro pins s σ H Q I h
  refine wpAny_Call_method_late hbase hfew hline rfl (thn (ho pins s σ H _ I h) fun v s1 ⟨x, H1, I1, r1, ty, q1⟩ => ?_)
  obtain ⟨h1, h2⟩ := tyV_is I1 r1 ty
  refine ⟨T, id, pa, slot, hty, h1, h2, ?_⟩
  have hA := ha cpos pins s1 σ H1 _ I1 q1
  rw [hs] at hA ⊢
  refine Calls.callWith_builtin (by show (false || (backTo cpos (starEach es X.env)).any (·.1)) = false; rw [hplain] <;> rfl) (Calls.evalArgs_plain ?_)
  exact thn hA fun us s2 ⟨vs, H2, I2, r2, q2⟩ => hm pins s2 σ H2 x vs v us Q I2 r1 r2 q2
end
end L2
namespace L2
open PySem PySem.Spec PyProof.Rows
def MtM (X : Cx) (id : String) (r : V → List V → Hp → VK → Prop) : Prop :=
  ∀ (pins : List (Addr × Obj)) (s : Shared) (σ : St) (H : Hp) (x : V) (xs : List V) (v : Value) (us : List Value) (Q : VK), Inv X pins σ H s → RelV x v → Vals xs us → r x xs H Q →
    wpAny (model X.prog X.w) X.A (call (.builtin id) (v :: us)) (EP X pins σ Q) X.xe s
theorem Vals.one : ∀ {x : V} {us : List Value}, Vals [x] us → ∃ u, us = [u] ∧ RelV x u
  | _, _, .cons r .nil => ⟨_, rfl, r⟩
theorem Vals.two : ∀ {x y : V} {us : List Value}, Vals [x, y] us → ∃ u v, us = [u, v] ∧ RelV x u ∧ RelV y v
  | _, _, _, .cons r (.cons q .nil) => ⟨_, _, rfl, r, q⟩
theorem Vals.zero : ∀ {us : List Value}, Vals [] us → us = []
  | _, .nil => rfl
theorem Vals.dropLast {xs : List V} {us : List Value} (h : Vals xs us) : Vals xs.dropLast us.dropLast := by
  induction h with
  | nil => exact .nil
  | cons r t ih =>
    cases t with
    | nil => exact .nil
    | cons q t' => exact .cons r ih
theorem Vals.eraseIdx : ∀ {xs : List V} {us : List Value} (i : Nat), Vals xs us → Vals (xs.eraseIdx i) (us.eraseIdx i)
  | _, _, _, .nil => .nil
  | _, _, 0, .cons _ t => t
  | _, _, i + 1, .cons r t => .cons r (Vals.eraseIdx i t)
theorem erase_last {α : Type} (l : List α) : l.eraseIdx (l.length - 1) = l.dropLast := by
  induction l with
  | nil => rfl
  | cons a r ih =>
    cases r with
    | nil => rfl
    | cons b r =>
      have e : (a :: b :: r).length - 1 = ((b :: r).length - 1) + 1 := by
        have h1 : (a :: b :: r).length = r.length + 2 := rfl
        have h2 : (b :: r).length = r.length + 1 := rfl
        omega
      rw [e, List.eraseIdx_cons_succ, ih]
      all_goals rfl
section
variable {X : Cx} {pins : List (Addr × Obj)} {σ : St} {H : Hp} {s : Shared} {l b : Addr} {xs ys zs : List V}
theorem Inv.lset {its its' : List Value} {n : Nat} {f : Array Value → Array Value} {t' : Nat} (I : Inv X pins σ H s) (hH : H l = some (.lst xs))
    (e : s.heap.get? l = some { cls := .type "list", data := .seq its.toArray n }) (hf : f its.toArray = its'.toArray) (hv : Vals ys its') (hz : ys.length ≤ sizeLine) :
    Inv X pins σ (upd H l (.lst ys)) { s with heap := s.heap.update l (Obj.mapSeq f), toks := t' } := by
  have q := PySem.IsL.update e f
  rw [hf] at q
  refine I.write (x := l) (e := l) (by rw [hH]; exact trivial) (.inl rfl) (fun b' u hb hu => (Heap.get?_update_other s.heap (Obj.mapSeq f) (Ne.symm hb)).trans hu) ⟨_, q⟩ ?_
  exact ⟨hz, its', _, hv, q⟩
theorem Inv.fresh (I : Inv X pins σ H s) : H s.heap.objs.size = none := I.hok.fresh (Nat.le_refl _)
theorem Inv.lstM (I : Inv X pins σ H s) (hH : H l = some (.lst xs)) : xs.length ≤ sizeLine ∧ ∃ (its : List Value) (n : Nat), Vals xs its ∧ xs.length = its.length ∧ s.heap.get? l = some { cls := .type "list", data := .seq its.toArray n } := by
  obtain ⟨z, its, n, r, e⟩ := I.hok l _ hH
  exact ⟨z, its, n, r, r.length, e⟩
theorem notLongL {n : Nat} (h : n ≤ sizeLine) : Builtin.List.listTooLong n = false := by
  unfold Builtin.List.listTooLong
  exact decide_eq_false (by omega)
end
section
variable {X : Cx}
def rAppend : V → List V → Hp → VK → Prop := fun x vs H Q => ∃ l xs y, x = .ref l ∧ vs = [y] ∧ H l = some (.lst xs) ∧ xs.length < sizeLine ∧ Q .non (upd H l (.lst (xs ++ [y])))
theorem mt_append : MtM X "list.append" rAppend := by
  intro pins s σ H x vs v us Q I rx rv h
  obtain ⟨l, xs, y, rfl, rfl, hH, hz, q⟩ := h
  cases rx
  obtain ⟨u, rfl, ru⟩ := rv.one
  obtain ⟨z, its, n, r, hl, e⟩ := I.lstM hH
  refine call_meets F.slot_list_append ⟨_, e, rfl⟩ F.entry_list_append (F.args_list_append_2 _ _) (PySem.list_append l its.toArray n u (by rw [List.size_toArray]; omega)) ⟨e, ?_⟩
  refine ⟨.non, _, I.lset (its' := its ++ [u]) hH e (by simp) (r.append (.cons ru .nil)) ?_, rfl, q⟩
  rw [List.length_append, List.length_singleton]
  omega
def rExtend : V → List V → Hp → VK → Prop := fun x vs H Q => ∃ l b xs zs, x = .ref l ∧ vs = [.ref b] ∧ H l = some (.lst xs) ∧ H b = some (.lst zs) ∧ xs.length + zs.length ≤ sizeLine ∧ Q .non (upd H l (.lst (xs ++ zs)))
def rPop : V → List V → Hp → VK → Prop := fun x vs H Q => ∃ l xs y, x = .ref l ∧ vs = [] ∧ H l = some (.lst xs) ∧ xs[xs.length - 1]? = some y ∧ Q y (upd H l (.lst xs.dropLast))
theorem mt_pop : MtM X "list.pop" rPop := by
  intro pins s σ H x vs v us Q I rx rv h
  obtain ⟨l, xs, y, rfl, rfl, hH, hy, q⟩ := h
  cases rx
  have hus := rv.zero
  subst hus
  obtain ⟨z, its, n, r, hl, e⟩ := I.lstM hH
  obtain ⟨u, hu, ru⟩ := r.get hy
  have hy' : its.toArray[its.toArray.size - 1]? = some u := by
    show its.toArray[its.length - 1]? = some u
    rw [← Array.getElem?_toList, ← hl]
    exact hu
  refine call_meets F.slot_list_pop ⟨_, e, rfl⟩ F.entry_list_pop (F.args_list_pop_1 _) (MeetsSeq.list_pop_last l its.toArray n u hy' (by rw [List.size_toArray]; omega)) ⟨e, ?_⟩
  refine ⟨y, _, I.lset (its' := its.dropLast) hH e ?_ r.dropLast ?_, ru, q⟩
  · show its.toArray.eraseIdxIfInBounds (its.toArray.size - 1) = its.dropLast.toArray
    rw [List.size_toArray, List.eraseIdxIfInBounds_toArray, erase_last]
  · rw [List.length_dropLast]
    omega
def rPopAt : V → List V → Hp → VK → Prop := fun x vs H Q => ∃ l xs i k y, x = .ref l ∧ vs = [.int i] ∧ H l = some (.lst xs) ∧ -(2 ^ 63) ≤ i ∧ i < 2 ^ 63 ∧ seqIndex? i xs.length = some k ∧ xs[k]? = some y ∧ Q y (upd H l (.lst (xs.eraseIdx k)))
def rCat : R2 := fun x y H Q => ∃ l b xs zs, x = .ref l ∧ y = .ref b ∧ H l = some (.lst xs) ∧ H b = some (.lst zs) ∧ xs.length + zs.length ≤ sizeLine ∧ ∀ p, H p = none → Q (.ref p) (upd H p (.lst (xs ++ zs)))
def rRep : R2 := fun x y H Q => ∃ l k xs, x = .ref l ∧ y = .int k ∧ H l = some (.lst xs) ∧ -(2 ^ 63) ≤ k ∧ k < 2 ^ 63 ∧ xs.length * k.toNat ≤ sizeLine ∧
  ∀ p, H p = none → Q (.ref p) (upd H p (.lst (List.replicate k.toNat xs).flatten))
end
section
variable {prog : Program} {w : World} {A : Around} {E : Value → Shared → Prop} {s : Shared}
set_option maxRecDepth 100000 in
end
section
variable {X : Cx}
end
end L2
namespace Att
open PySem PySem.W PySem.Calls PyProof.Rows
theorem ints_of_wellAll {P : Params} {h : Heap} : ∀ (ns : List Int) (vs : List Value), WellAll P h vs (ns.map WData.int) → IntsAre vs ns := by
  intro ns
  induction ns with
  | nil =>
    intro vs w
    rw [List.map_nil] at w
    cases w
    exact .nil
  | cons n ns ih =>
    intro vs w
    rw [List.map_cons] at w
    cases w with
    | cons a b =>
      cases a
      exact .cons _ _ (ih _ b)
theorem script_of {l : OpenLaw} {n : Nat} (hn : l.most = some n) {P : Params} {h : Heap} {args : List WData} {vals : List Value}
    (hpre : l.row.toRowW.claim.pre args = true) (hwl : WellAll P h vals args) :
    ∃ a vs ns, vals = [Value.ref a] ∧ args = [WData.list (ns.map WData.int)] ∧ h.get? a = some { cls := .type "list", data := .seq vs.toArray } ∧ IntsAre vs ns ∧ ns.length ≤ n := by
  have hsh : WShape.hasAll [] args [.list .int] = true := (pre_splitW hpre).1
  have hc : l.pre.holds [] { args := args } = true := (pre_splitW hpre).2
  obtain ⟨d, r, rfl, h1, h2⟩ := hasAllW_cons hsh
  obtain rfl := hasAllW_nil h2
  obtain ⟨xs, rfl, h3⟩ := hasW_list h1
  obtain ⟨ns, rfl⟩ := items_int h3
  have hlen : ns.length ≤ n := by
    unfold OpenLaw.pre at hc
    have h4 : (WTm.not (.lt (.lit (.int (n : Int))) (.len (.arg 0)))).holds [] { args := [.list (ns.map .int)] } = true := by
      have h4 := (holds_andW hc).1
      rw [hn] at h4
      exact h4
    have h5 := condW_of h4 (w_not (w_lt w_lit (w_len_list (w_arg rfl))))
    rw [List.length_map] at h5
    refine Nat.le_of_not_lt fun q => ?_
    have q' : (n : Int) < ((ns.length : Nat) : Int) := by omega
    first
      | (rw [decide_eq_true q'] at h5; exact absurd h5 (by decide))
      | (simp at h5; omega)
  cases hwl with
  | cons w1 w2 =>
    cases w2
    cases w1 with
    | list ho hall => exact ⟨_, _, ns, rfl, rfl, ho, ints_of_wellAll ns _ hall, hlen⟩
theorem post_true (l : OpenLaw) (args : List WData) : l.row.toRowW.claim.post args (.bool true) args = true :=
  postW_of (r := l.row.toRowW) (X := (true == true))
    (show WShape.has [] (.bool true) .bool = true by first | rfl | decide | simp [WShape.has, WShape.arms, WShape.armsAll])
    (show (WTm.eq .res (.lit (.bool true))).value [] { args := args, res := some (.bool true), after := args } = some (.bool (true == true)) from w_eq_bool (w_res rfl) w_lit) rfl
theorem attach_call {l : OpenLaw} {n : Nat} {q : Program} {loose : List Str} {XP : (Str → Option Value) → Heap → Prop} {YP : World → Heap → Prop} {d : DefRec}
    (hn : l.most = some n) (hdf : d.params.defaults = [])
    (call : ∀ (w : World) (s₀ s₁ : Shared) (mg mb : Str → Option Value) (fa : Addr) (o : Obj) (pm cd doc : Value) (a : Addr) (vs : List Value) (ns : List Int),
      Ground q loose [] XP w s₀ mg mb s₁.heap → YP w s₁.heap →
      s₁.heap.get? fa = some o → o.data = .func (docDef d.name d.params d.body d.scope pm cd doc) → s₁.heap.CodeRec cd d.name → mg d.name = some (.ref fa) →
      s₁.heap.get? a = some { cls := .type "list", data := .seq vs.toArray } → IntsAre vs ns → ns.length ≤ n → s₁.gens = #[] →
      codeAny (model l.prog w) callerA (.call (.ref fa) ⟨[.ref a], []⟩) (fun r s' => r = .ok (.ret (.bool true)) ∧ OldK s₁.heap s'.heap ∧ s'.os = s₁.os ∧ AllBare s'.gens) s₁) :
    WalkO q loose XP YP l.row.toRowW d [] (fun f vs => PySem.call f vs) := by
  intro w s₀ s₁ mg mb G Y fa o pm cd doc dV kV ho hd hcd hD hmg hg args vals as hpre hlay hrd hwl hlo
  obtain rfl : dV = .none := Dflts.none hD hdf
  obtain rfl : kV = .none := Dflts.noKw hD
  obtain ⟨a, vs, ns, rfl, rfl, hobj, hints, hlen⟩ := script_of hn hpre hwl
  refine enter_call (codeAny_mono (call w s₀ s₁ mg mb fa o pm cd doc a vs ns G Y ho (fd_plain hd) hcd hmg hobj hints hlen hg) fun r s' hq => ?_)
  obtain ⟨rfl, h2, h3, h4⟩ := hq
  exact ⟨.inl ⟨.bool true, .bool true, [], rfl, fun _ => rfl, .bool true, post_true l _, fun _ => ⟨List.Pairwise.nil, fun _ hm => (nomatch hm)⟩⟩, h2, h3, h4⟩
section
variable {prog : Program} {w : World} {A : Around} {E : Value → Shared → Prop} {s : Shared} {K : Frag}
end
end Att
namespace L2
open PySem PySem.Spec PyProof.Rows
theorem vals_ints : ∀ {vs : List Value} {ns : List Int}, IntsAre vs ns → Vals (ns.map V.int) vs
  | _, _, .nil => .nil
  | _, _, .cons n t h => .cons ⟨t, rfl⟩ (vals_ints h)
def Only (H : Hp) : Prop := ∀ b, H b = none ∨ ∃ o xs, H b = some (.frz o (.lst xs))
theorem law_call {P : Program} {w : World} {K : PySem.W.Frag} {mg mb : Str → Option Value} {CX : CXT} {k : Nat} {fa a : Addr} {fd : FuncData} {x : Str} {sp : Sp} {s₁ : Shared} {vs : List Value} {ns : List Int}
    (KX : K.In s₁.heap) (hns : s₁.heap.Ns mainGlobals mg) (hb : s₁.heap.Ns builtinsNs mb) (hbb : ∀ x : Str, x ≠ "__name__" → mb x = bootBuiltins x) (hlim : s₁.heap.NoLimit) (hg : s₁.gens = #[])
    (ha : s₁.heap.get? a = some { cls := .type "list", data := .seq vs.toArray }) (hi : IntsAre vs ns) (hl : ns.length ≤ sizeLine) (hr : Room k callerA)
    (F : ∀ base : Heap, K.In base → base.Ns mainGlobals mg → FnOk P w K mg base CX k fa fd [x] sp) (hbind : ∀ (s : Shared) (u : Value), BindsTo s fd ⟨[u], []⟩ [(x, u)])
    (hsp : ∀ H : Hp, Only H → SqL K H a (ns.map V.int) → sp [.ref a] H (fun v _ => v = .bl true) fun _ _ _ => False)
    (hCX : ∀ H e s', CX [] H s₁ (fun _ _ _ => False) e s' → False) :
    codeAny (model P w) callerA (.call (.ref fa) ⟨[.ref a], []⟩) (fun r s' => r = .ok (.ret (.bool true)) ∧ OldK s₁.heap s'.heap ∧ s'.os = s₁.os ∧ AllBare s'.gens) s₁ := by
  have rv := vals_ints hi
  have lenV := hi.length
  have core : ∀ H : Hp, Only H → SqL K H a (ns.map V.int) → HOk P w H s₁.heap → (∀ b, H b ≠ none → b = a) → (H a ≠ none → K.lookup a = none) →
      codeAny (model P w) callerA (.call (.ref fa) ⟨[.ref a], []⟩) (fun r s' => r = .ok (.ret (.bool true)) ∧ OldK s₁.heap s'.heap ∧ s'.os = s₁.os ∧ AllBare s'.gens) s₁ := by
    intro H hO hS hok hA hK
    have base_of : ∀ {b : Addr} {o : Obj}, s₁.heap.get? b = some o → H b = none → (hidT s₁.heap H).get? b = some o := fun e n => hidT_get e n
    have noA : ∀ {b : Addr} {o : Obj} {es : Array DictEntry} {ep : Nat}, s₁.heap.get? b = some o → o.data = .dict es ep → H b = none := fun {b o es ep} e d => by
      cases q : H b with
      | none => rfl
      | some u =>
        have e' : b = a := hA b (by rw [q]; simp)
        subst e'
        rw [ha] at e; cases e
        have d' : Data.seq vs.toArray _ = Data.dict es ep := d
        cases d'
    have nsK : ∀ {b : Addr} {m : Str → Option Value}, s₁.heap.Ns b m → (hidT s₁.heap H).Ns b m := fun {b m} ⟨o, es, ep, e, d, r⟩ => ⟨o, es, ep, base_of e (noA e d), d, r⟩
    have hKb : K.In (hidT s₁.heap H) := fun b o e => base_of (KX b o e) (by
      cases q : H b with
      | none => rfl
      | some u =>
        have e' : b = a := hA b (by rw [q]; simp)
        subst e'
        rw [hK (by rw [q]; simp)] at e; cases e)
    have hM : Mod K mg (hidT s₁.heap H) := ⟨hKb, nsK hns, ⟨mb, nsK hb, hbb⟩, let ⟨mc, h1, h2⟩ := hlim; ⟨mc, nsK h1, h2⟩⟩
    have e0 : Env0 P w K mg (hidT s₁.heap H) callerA [] s₁ H := ⟨rfl, hM, fun b o e => of_hidT e, Nat.le_of_eq (hidT_size _ _), trivial, fun b hb => absurd (show b ∈ ([] : List Addr) from hb) (by simp), hok, .of_eq hg⟩
    refine codeAny_mono ((F _ hKb (nsK hns)).run callerA [] s₁ H ⟨[.ref a], []⟩ [.ref a] [.ref a] _ _ hr e0 (hbind s₁ (.ref a)) (.cons rfl .nil) (hsp H hO hS)) fun r s' h => ?_
    cases r with
    | error e => exact (hCX H e s' h).elim
    | ok fl =>
      cases fl with
      | next => exact False.elim h
      | brk => exact False.elim h
      | cont => exact False.elim h
      | ret u =>
        obtain ⟨v, H', os, bare, un, hok', r', q⟩ := h
        have q' : v = .bl true := q
        subst q'
        obtain rfl : u = Value.bool true := r'
        refine ⟨rfl, OldK.of_keep fun b o e => ?_, os, bare⟩
        cases q : H b with
        | none => exact un.keep b o e q (by intro z; exact absurd (show b ∈ ([] : List Addr) from z) (by simp)) (by simp)
        | some u =>
          rcases hO b with z | ⟨ob, xs, z⟩
          · rw [q] at z; cases z
          · have z2 := un.frzs b ob _ z
            obtain ⟨e1, _⟩ := hok b _ z
            obtain ⟨e2, _⟩ := hok' b _ z2
            rw [e] at e1; cases e1
            exact e2
  cases hk : K.lookup a with
  | some o =>
    have e := KX a o hk
    rw [ha] at e
    cases e
    refine core (fun _ => none) (fun _ => .inl rfl) (.inr ⟨_, vs.toArray, _, hk, rfl, rfl, rfl, by rw [List.size_toArray, lenV]; exact hl, by simpa using rv⟩) (fun b u z => by have z' : (none : Option HO) = some u := z; cases z') (fun b z => absurd rfl z) fun z => absurd rfl z
  | none =>
    refine core (fun b => if b = a then some (.frz { cls := .type "list", data := .seq vs.toArray } (.lst (ns.map V.int))) else none) (fun b => ?_) (.inl (.inr ⟨{ cls := .type "list", data := .seq vs.toArray }, if_pos rfl⟩)) (fun b u z => ?_) (fun b z => ?_) fun _ => hk
    · by_cases hb : b = a
      · exact .inr ⟨_, _, if_pos hb⟩
      · exact .inl (if_neg hb)
    · by_cases hb : b = a
      · have z' := (if_pos hb).symm.trans z
        cases z'
        subst hb
        exact ⟨ha, by rw [List.length_map]; exact hl, vs, _, rv, ha⟩
      · have z' := (if_neg hb).symm.trans z
        cases z'
    · by_cases hb : b = a
      · exact hb
      · exact absurd (if_neg hb) z
end L2
namespace L2
open PySem PySem.Spec PyProof.Rows
theorem walk_of {l : PySem.W.OpenLaw} {n k : Nat} {q : Program} {loose : List Str} {XP : (Str → Option Value) → Heap → Prop} {YP : World → Heap → Prop} {d : DefRec} {K : Params → PySem.W.Frag} {CX : World → CXT} {sp : World → Sp} {x : Str}
    (hn : l.most = some n) (hn2 : n ≤ sizeLine) (hdf : d.params.defaults = []) (hr : Room k callerA)
    (hY : ∀ (w : World) (h : Heap), YP w h → (K w.params).In h)
    (F : ∀ (w : World) (mg : Str → Option Value) (fa : Addr) (h : Heap), (K w.params).In h → h.Ns mainGlobals mg → mg d.name = some (.ref fa) →
      ∃ fd : FuncData, (∀ (s : Shared) (u : Value), BindsTo s fd ⟨[u], []⟩ [(x, u)]) ∧
        ∀ base : Heap, (K w.params).In base → base.Ns mainGlobals mg → FnOk l.prog w (K w.params) mg base (CX w) k fa fd [x] (sp w))
    (hsp : ∀ (w : World) (H : Hp) (a : Addr) (ns : List Int), ns.length ≤ n → Only H → SqL (K w.params) H a (ns.map V.int) → sp w [.ref a] H (fun v _ => v = .bl true) fun _ _ _ => False)
    (hCX : ∀ (w : World) (H : Hp) (s : Shared) (e : Value) (s' : Shared), CX w [] H s (fun _ _ _ => False) e s' → False) :
    PySem.W.WalkO q loose XP YP l.row.toRowW d [] (fun f vs => PySem.call f vs) := by
  refine Att.attach_call hn hdf fun w s₀ s₁ mg mb fa o pm cd doc a vs ns G Y ho hd hcd hmg hobj hints hlen hg => ?_
  have KX := hY w _ Y
  obtain ⟨fd, hb, hF⟩ := F w mg fa _ KX G.T.g hmg
  exact law_call KX G.T.g G.T.b G.T.builtins G.T.nolimit hg hobj hints (Nat.le_trans hlen hn2) hr hF hb (fun H hO hS => hsp w H a ns hlen hO hS) fun H e s' => hCX w H s₁ e s'
end L2
namespace L2
open PySem PySem.Spec PyProof.Rows
def defArgs (s : Stmt) : Arguments := match s with
  | .FunctionDef _ a _ _ _ _ _ _ _ _ => a
  | _ => { posonlyargs := [], args := [], vararg := none, kwonlyargs := [], kw_defaults := [], kwarg := none, defaults := [] }
def defBody (s : Stmt) : List Stmt := match s with
  | .FunctionDef _ _ b _ _ _ _ _ _ _ => b
  | _ => []
def defScope (s : Stmt) : Scope := match s with
  | .FunctionDef _ _ _ _ _ _ sc _ _ _ => sc
  | _ => { kind := .function, names := [], isGenerator := false, isCoroutine := false }
abbrev CX0 : CXT := fun _ _ _ _ _ _ => False
abbrev E0 : XK := fun _ _ _ => False
theorem pass0 {X : Cx} : Passes CX0 X E0 := fun _ _ _ _ _ _ _ h => h.elim
structure Fun (K : PySem.W.Frag) (x qual : Str) (st : Stmt) (f : Addr) (fd : FuncData) : Prop where
  ex : ∃ (oc : Value) (od : Option Addr) (kV doc pm : Value) (an : Option Addr) (cdv ct : Value) (osl : Array (Option Value)),
    fd = PySem.W.fnOf x qual (defArgs st) (defBody st) (defScope st) .none kV doc pm an cdv ct ∧ K.lookup f = some ⟨oc, od, .func fd, osl⟩ ∧ PySem.W.codeIn K cdv qual = true
  kp : PySem.W.keepIn K (.ref f) = true
section
variable {P : Program} {w : World} {K : PySem.W.Frag} {mg : Str → Option Value} {base : Heap}
theorem Fun.ok {x qual : Str} {st : Stmt} {f : Addr} {fd : FuncData} {N ps : List Str} {k : Nat} {sp : Sp} (F : Fun K x qual st f fd) (S : FnScope N ps (defScope st)) (len : ∀ vs H Q E, sp vs H Q E → vs.length = ps.length)
    (hbody : ∀ (cdv : Value) (A : Around) (outer : List Env) (s : Shared) (H : Hp) (vs : List V) (Q : VK) (E : XK), Room k (A.deeper (envOfC qual (defScope st) s.heap.objs.size f cdv)) → sp vs H Q E →
      ∃ t, PSs (cxOf CX0 P w K mg base N qual (defScope st) f cdv A outer s H E).nox (defBody st) t ∧ t { nx := fun _ H' => Q .non H', rt := Q } (start N vs) H) : FnOk P w K mg base CX0 (k + 1) f fd ps sp := by
  obtain ⟨oc, od, kV, doc, pm, an, cdv, ct, osl, rfl, lk, hcd⟩ := F.ex
  refine fn_of lk hcd S len fun A outer s H vs Q E hr hsp => ?_
  obtain ⟨t, h, q⟩ := hbody cdv A outer s H vs Q E hr hsp
  exact ⟨t, h.nox, q⟩
theorem Fun.binds {x qual : Str} {st : Stmt} {f : Addr} {fd : FuncData} {ps : List Str} (F : Fun K x qual st f fd)
    (h : ∀ (kV doc pm : Value) (an : Option Addr) (cdv ct : Value) (us : List Value), us.length = ps.length → bindArgs (PySem.W.fnOf x qual (defArgs st) (defBody st) (defScope st) .none kV doc pm an cdv ct) ⟨us, []⟩ = pure (ps.zip us)) : Binds K fd ps [] := by
  obtain ⟨oc, od, kV, doc, pm, an, cdv, ct, osl, rfl, lk, hcd⟩ := F.ex
  exact .all (h kV doc pm an cdv ct)
theorem fun_mk {x qual : Str} {st : Stmt} {f : Addr} {oc : Value} {od an : Option Addr} {osl : Array (Option Value)} {kV doc pm cdv ct : Value} (l : K.lookup f = some ⟨oc, od, .func (PySem.W.fnOf x qual (defArgs st) (defBody st) (defScope st) .none kV doc pm an cdv ct), osl⟩)
    (c : PySem.W.codeIn K cdv qual = true) (k : PySem.W.keepIn K (.ref f) = true) : Fun K x qual st f (PySem.W.fnOf x qual (defArgs st) (defBody st) (defScope st) .none kV doc pm an cdv ct) := ⟨⟨oc, od, kV, doc, pm, an, cdv, ct, osl, rfl, l, c⟩, k⟩
end
theorem small1000 {n : Nat} (h : n ≤ 1000) : n < sizeLine := Nat.lt_of_le_of_lt h (by decide)
section
variable {X : Cx}
theorem pv (i : Nat) {x : Str} {pos : Pos} (hN : X.N[i]? = some x := by rfl) (hv : Vis X.env.scope x := by first | exact Or.inl rfl | exact Or.inr (Or.inl rfl) | exact Or.inr (Or.inr rfl)) (hd : (x == ("__debug__" : Str)) = false := by decide)
    (hcd : (x == ("__classdict__" : Str)) = false := by decide) : PE X (.Name x pos) (tVar i) := pe_var hN hv hd hcd
end
def Same (H H' : Hp) : Prop := ∀ b o, H b = some o → H' b = some o
theorem Same.refl (H : Hp) : Same H H := fun _ _ h => h
theorem Same.trans {H H1 H2 : Hp} (a : Same H H1) (b : Same H1 H2) : Same H H2 := fun c o h => b c o (a c o h)
theorem Same.free {H H' : Hp} (e : Same H H') {l : Addr} (h : H' l = Option.none) : H l = Option.none := by
  cases q : H l with
  | none => rfl
  | some o =>
    rw [e l o q] at h
    cases h
theorem Same.seq {K : PySem.W.Frag} {H H' : Hp} {a : Addr} {xs : List V} (e : Same H H') (h : SqL K H a xs) : SqL K H' a xs := by
  rcases h with (h | ⟨o, h⟩) | h
  · exact .inl (.inl (e _ _ h))
  · exact .inl (.inr ⟨o, e _ _ h⟩)
  · exact .inr h
end L2
set_option maxHeartbeats 4000000
namespace L2
open PySem PySem.Spec PyProof.Rows
section
variable {prog : Program} {w : World} {A : Around} {R : Result → Shared → Prop} {s : Shared}
theorem compLoop_any {elt target iter : Expr} {scope : Scope} {pos : Pos} {it acc : Value} {env : Env} (I : Nat → Shared → Prop)
    (turn : ∀ n s, I n s → wpAny (model prog w) A (pyNext it) (fun r s₁ => match r with
      | none => R (.ok .next) s₁
      | some v => wpAny (model prog w) A (letOwnedTupleGo target it v) (fun _ s₀ => wpAny (model prog w) A (assign target env v) (fun _ s₂ => wpAny (model prog w) A (eval elt env) (fun x s₃ =>
          wpAny (model prog w) A (call (.builtin "list.append") [acc, x]) (fun _ s₄ => ∃ m, m < n ∧ I m s₄) (fun _ _ => False) s₃)
          (fun _ _ => False) s₂) (fun _ _ => False) s₀) (fun _ _ => False) s₁) (fun _ _ => False) s)
    (n : Nat) (h : I n s) :
    codeAny (model prog w) A (.compLoop (.ListComp elt [⟨target, iter, [], 0⟩] scope pos) 0 it acc env) R s := by
  refine codeAny_loop rfl I (fun n s hI => ?_) n h
  show wpAny _ _ ((compTurn (.ListComp elt [⟨target, iter, [], 0⟩] scope pos) 0 it acc env).onRaise (fun x => do noteFrame x env; theTreesLotGoes x)) _ _ s
  refine wpAny_noted ?_
  rw [compTurn_list1]
  refine wpAny_bind (wpAny_standAt (wpAny_bind (wpAny_mono (turn n s hI) (fun r s₁ h₁ => ?_) fun _ _ h' => h'.elim)))
  cases r with
  | none => exact wpAny_pure h₁
  | some v =>
    refine wpAny_bind (wpAny_mono h₁ (fun _ s₀ h₀ => ?_) fun _ _ h' => h'.elim)
    exact wpAny_bind (wpAny_mono h₀ (fun _ s₂ h₂ => wpAny_bind (wpAny_bind (wpAny_mono h₂ (fun x s₃ h₃ => wpAny_bind (wpAny_mono h₃
      (fun _ s₄ h₄ => wpAny_pure (wpAny_pure ⟨rfl, h₄⟩)) fun _ _ h' => h'.elim)) fun _ _ h' => h'.elim))) fun _ _ h' => h'.elim)
end
def cxComp (X : Cx) (N : List Str) (scope : Scope) (cl : List (Str × Addr)) (C : Addr) (ex : List Addr) (s : Shared) (H : Hp) : Cx where
  prog := X.prog
  w := X.w
  K := X.K
  mg := X.mg
  base := X.base
  A := X.A
  N := N
  s₀ := s
  H₀ := H
  env := compEnvC scope cl C X.env
  outer := X.stack
  stack := X.stack
  ex := ex
  fn := fun _ => false
  calm := X.calm
  pn := X.pn
  xe := fun _ _ => False
def compSt (k : Nat) (js : List Nat) (σ : St) : St := List.replicate k none ++ js.map fun j => (σ[j]?).join
def tComp (wi : TI) (k : Nat) (js : List Nat) (g : TG) (te : TE) : TE := fun σ H Q => wi σ H fun J H1 =>
  ∃ W : Nat → Nat → List V → St → Hp → Prop, (∃ m, W 0 m [] (compSt k js σ) H1) ∧ ∀ i m ys σ' H', W i m ys σ' H' →
    (J.stop i H' ∧ ∀ p, H' p = none → Q (.ref p) (upd H' p (.lst ys))) ∨
    (J.go i H' ∧ ys.length < sizeLine ∧ ∃ N : List V → St → Hp → Prop, (∀ zs σ2 H2, N zs σ2 H2 → ∃ m', m' < m ∧ W (i + 1) m' zs σ2 H2) ∧
      ∀ x H2, J.yld i H' x H2 → g x σ' H2 fun σ3 H3 => te σ3 H3 fun v H4 => N (ys ++ [v]) σ3 H4)
structure Cap (X : Cx) (scope : Scope) (cl : List (Str × Addr)) (x : Str) (j : Nat) : Prop where
  at_ : X.N[j]? = some x
  out : X.env.scope.names.lookup x = some .cell ∨ X.env.scope.names.lookup x = some .free
  inn : (relabel scope X.env).names.lookup x = some .cell ∨ (relabel scope X.env).names.lookup x = some .free
theorem join_some {σ : St} {j : Nat} {v : V} (h : (σ[j]?).join = some v) : σ[j]? = some (some v) := by
  cases e : σ[j]? with
  | none => rw [e] at h; cases h
  | some o =>
    rw [e] at h
    cases o with
    | none => cases h
    | some u => cases h; rfl
theorem pe_comp {X : Cx} {elt tg iter : Expr} {scope : Scope} {cl : List (Str × Addr)} {pos : Pos} {own fv : List Str} {js : List Nat} {wi : TI} {g : TG} {te : TE}
    (hc : X.calm = true) (hi : PI X tg iter wi) (hclos : closureFor scope X.env = pure cl) (hcell : ∀ y ∈ scope.names, y.2 ≠ .cell) (hkind : scope.kind = .function)
    (hnames : ∀ y ∈ scope.names, y.2 = .local → scope.names.lookup y.1 = some .local)
    (hcl : ∀ x c, cl.lookup x = some c → X.env.cells.lookup x = some c)
    (hhas : ∀ x, ((relabel scope X.env).names.lookup x = some .cell ∨ (relabel scope X.env).names.lookup x = some .free) → ∃ c, cl.lookup x = some c)
    (hlen : js.length = fv.length) (hcap : ∀ (i : Nat) x j, fv[i]? = some x → js[i]? = some j → Cap X scope cl x j)
    (hg : ∀ (C : Addr) (ex : List Addr) (s : Shared) (H : Hp), PG (cxComp X (own ++ fv) scope cl C ex s H) tg g)
    (he : ∀ (C : Addr) (ex : List Addr) (s : Shared) (H : Hp), PE (cxComp X (own ++ fv) scope cl C ex s H) elt te)
    (hs : ∀ x, foldedSetIterable iter X.env x = pure x := by intro _; rfl) :
    PE X (.ListComp elt [⟨tg, iter, [], 0⟩] scope pos) (tComp wi own.length js g te) := by
  intro pins s σ H Q I h
  rw [eval_ListComp]
  refine wpAny_comprehension_free (use := none) rfl hs hclos hkind hnames (thn (hi pins s σ H _ I h) fun v s1 h1 => thn h1 fun itv s2 h2 => ?_)
  obtain ⟨it, fp, tn, J, H2, e, I2, T, st2, f2, W, ⟨m0, w0⟩, turn⟩ := h2
  subst e
  refine wpAny_newObj_type (wpAny_newFunctionEnv hcell (by intro y hy; simp at hy) (fun h₁ hns₁ hsb₁ => ?_) hkind)
  dsimp only at hns₁ hsb₁ ⊢
  generalize hHp : s2.heap.push { cls := .type "list", dict := none, data := .seq ([] : List Value).toArray } = hL at hns₁ hsb₁ ⊢
  have hC : hL.objs.size = s2.heap.objs.size + 1 := by rw [← hHp, Heap.size_push]
  have hDC : s2.heap.objs.size ≠ hL.objs.size := by rw [hC]; exact Nat.ne_of_lt (Nat.lt_succ_self _)
  have ltC : ∀ b, b < s2.heap.objs.size → b ≠ hL.objs.size := fun b hb => by rw [hC]; exact Nat.ne_of_lt (Nat.lt_succ_of_lt hb)
  have old : ∀ b o, s2.heap.get? b = some o → h₁.get? b = some o := fun b o e => hsb₁.extBut b o (ltC b (Heap.lt_size e)) (Heap.get?_push_of_some _ (hHp ▸ Heap.get?_push_of_some _ e))
  have hacc : h₁.get? s2.heap.objs.size = some { cls := .type "list", data := .seq ([] : List Value).toArray 0 } := hsb₁.extBut _ _ hDC (Heap.get?_push_of_some _ (hHp ▸ Heap.get?_push_size _ rfl))
  have hfresh : ∀ a, s2.heap.objs.size ≤ a → H2 a = none := fun a ha => I2.hok.fresh ha
  have fpL : ∀ b ∈ fp, b < s2.heap.objs.size := fun b hb => by
    obtain ⟨o, e, _⟩ := T.obj _ _ st2 b hb
    exact Heap.lt_size e
  have cellL : ∀ x c, cl.lookup x = some c → c < s2.heap.objs.size := fun x c e => by
    obtain ⟨v, q⟩ := I2.cell x c (hcl x c e)
    exact q.lt
  have pinL : ∀ p ∈ X.pn ++ pins, p.1 < s2.heap.objs.size := fun p hp => Heap.lt_size (I2.pin p hp).1
  generalize hX : cxComp X (own ++ fv) scope cl hL.objs.size fp s2 H2 = Y
  have ok : Y.Ok := by
    subst hX
    refine ⟨I2.ok.mod, hkind, I2.ok.glob, I2.ok.blt, by show s2.heap.objs.size ≤ hL.objs.size; omega, fun x y c h1 h2 => I2.ok.inj x y c (hcl x c h1) (hcl y c h2), fun x hx => hhas x hx,
      fun x c hf => absurd hf (by show ¬ (false = true); decide), I2.ok.hd, I2.ok.frames, .inl rfl, fun b hb => ⟨ltC b (fpL b hb), fun x c e => (f2 b hb).2.2.2.2.1 x c (hcl x c e)⟩, I2.bs, Nat.le_trans I2.ok.bsz I2.sz, fun b o e hb => ?_, fun b hb hz => ?_, I2.stack, I2.stkFree⟩
    · rcases (f2 b hb).2.2.2.1 with z | z
      · exact I2.ok.noex b o e z
      · exact absurd (Nat.lt_of_lt_of_le (Heap.lt_size e) (Nat.le_trans I2.ok.bsz z)) (Nat.lt_irrefl _)
    · rcases List.mem_cons.mp (I2.stkSub b hz) with z | z
      · exact (f2 b hb).2.1 z
      · exact (f2 b hb).2.2.1 z
  have hYl : Y.env.locals = hL.objs.size := by subst hX; rfl
  have hYs : Y.s₀ = s2 := by subst hX; rfl
  have hYH : Y.H₀ = H2 := by subst hX; rfl
  have hYx : Y.ex = fp := by subst hX; rfl
  have hYf : Y.fs = frs X.stack := by subst hX; rfl
  have hYc : Y.env.cells = cl := by subst hX; rfl
  have hYp : Y.pn = X.pn := by subst hX; rfl
  have pinOk : ∀ p ∈ X.pn ++ pins, s2.heap.get? p.1 = some p.2 ∧ H2 p.1 = none ∧ p.1 ≠ hL.objs.size ∧ p.1 ∉ frs X.stack ∧ ∀ v, p.2.data ≠ .cell v := fun p hp => by
    obtain ⟨e, n, ne, nf, d⟩ := I2.pin p hp
    refine ⟨e, n, ltC _ (Heap.lt_size e), fun z => ?_, d⟩
    rcases List.mem_cons.mp (I2.stkSub _ z) with q | q
    · exact ne q
    · exact nf q
  have stkL : ∀ b ∈ frs X.stack, b < s2.heap.objs.size := fun b hb => by
    obtain ⟨_, o, ho, _⟩ := I2.stack.mem hb
    exact Heap.lt_size ho
  have I3 : Inv Y (pins ++ [(s2.heap.objs.size, { cls := .type "list", data := .seq ([] : List Value).toArray 0 })]) (compSt own.length js σ) H2 { s2 with heap := h₁, toks := s2.toks + ([] : List (Str × Value)).length } := by
    refine ⟨ok, by subst hX; rfl, I2.bare, by rw [hYH, hYs]; exact Un.kept old, ⟨_, by rw [hYl]; exact hns₁, fun i x v e1 e2 e3 => ?_⟩, fun x c e => ?_, by rw [hYl]; exact hfresh _ (by omega), fun x c e => ?_, fun p hp => ?_, by subst hX; exact I2.hok.kept old, ?_⟩
    · subst hX
      have e1 : (own ++ fv)[i]? = some x := e1
      unfold compSt at e2
      by_cases hi : i < own.length
      · rw [List.getElem?_append_left (by simpa using hi), List.getElem?_replicate] at e2
        split at e2 <;> cases e2
      · rw [List.getElem?_append_right (by simpa using hi), List.length_replicate, List.getElem?_map] at e2
        rw [List.getElem?_append_right (by omega)] at e1
        cases ej : js[i - own.length]? with
        | none => rw [ej] at e2; cases e2
        | some j =>
          rw [ej] at e2
          have cp := hcap _ x j e1 ej
          have e2' : σ[j]? = some (some v) := join_some (Option.some.inj e2)
          obtain ⟨m, hn, hl⟩ := I2.loc
          obtain ⟨u, r, l⟩ := hl j x v cp.at_ e2' (cp.out.elim (fun z => .inr (.inl z)) fun z => .inr (.inr z))
          refine ⟨u, r, .inr ⟨cp.inn, ?_⟩⟩
          obtain ⟨c, ec⟩ := hhas x cp.inn
          rcases l with ⟨k, _⟩ | ⟨_, c', ec', z⟩
          · have k : X.env.scope.names.lookup x = some .local := k
            rcases cp.out with q | q <;> rw [q] at k <;> cases k
          · rw [hcl x c ec] at ec'
            cases ec'
            obtain ⟨o, ho, hd⟩ := z
            exact ⟨c, ec, o, old _ _ ho, hd⟩
    · rw [hYc] at e
      obtain ⟨v, o, ho, hd⟩ := I2.cell x c (hcl x c e)
      exact ⟨v, o, old _ _ ho, hd⟩
    · rw [hYc] at e
      exact I2.freeC x c (hcl x c e)
    · rw [hYp] at hp
      rw [hYl, hYf]
      rcases List.mem_append.mp hp with z | z
      · obtain ⟨a, b, c, d, f⟩ := pinOk p (List.mem_append_left _ z)
        exact ⟨old _ _ a, b, c, d, f⟩
      · rcases List.mem_append.mp z with z | z
        · obtain ⟨a, b, c, d, f⟩ := pinOk p (List.mem_append_right _ z)
          exact ⟨old _ _ a, b, c, d, f⟩
        · have e : p = _ := List.mem_singleton.mp z
          subst e
          exact ⟨hacc, hfresh _ (Nat.le_refl _), hDC, fun z => absurd (stkL _ z) (Nat.lt_irrefl _), fun v z => by cases z⟩
    · subst hX
      unfold compSt
      show _ = (own ++ fv).length
      simp [hlen]
  have hYprog : Y.prog = X.prog := by subst hX; rfl
  have hYw : Y.w = X.w := by subst hX; rfl
  have hYK : Y.K = X.K := by subst hX; rfl
  have hYA : Y.A = X.A := by subst hX; rfl
  have hYcalm : Y.calm = true := by subst hX; exact hc
  have hYxe : Y.xe = fun _ _ => False := by subst hX; rfl
  have hYenv : Y.env = compEnvC scope cl hL.objs.size X.env := by subst hX; rfl
  have hg' := hg hL.objs.size fp s2 H2
  have he' := he hL.objs.size fp s2 H2
  rw [hX] at hg' he'
  have fpOk : ∀ {H' : Hp} {pn : List (Addr × Obj)}, (∀ b ∈ fp, H' b = none) → (∀ p ∈ pn, p.1 = s2.heap.objs.size ∨ p ∈ pins) → ∀ b ∈ fp, FpOk Y pn H' b := fun hn hp b hb => by
    refine ⟨hn b hb, by rw [hYl]; exact ltC b (fpL b hb), ?_, .inl (by rw [hYx]; exact hb), fun x c e => ?_, fun p hq => ?_⟩
    · rw [hYf]
      intro hz
      rcases List.mem_cons.mp (I2.stkSub b hz) with z | z
      · exact (f2 b hb).2.1 z
      · exact (f2 b hb).2.2.1 z
    · rw [hYc] at e
      exact (f2 b hb).2.2.2.2.1 x c (hcl x c e)
    · rw [hYp] at hq
      rcases List.mem_append.mp hq with z | z
      · exact (f2 b hb).2.2.2.2.2 p (List.mem_append_left _ z)
      · rcases hp p z with q | q
        · rw [q]; exact Ne.symm (Nat.ne_of_lt (fpL b hb))
        · exact (f2 b hb).2.2.2.2.2 p (List.mem_append_right _ q)
  have loop : ∀ s₃ : Shared, s₃ = { s2 with heap := h₁, toks := s2.toks + ([] : List (Str × Value)).length } →
      codeAny (model X.prog X.w) X.A (.compLoop (.ListComp elt [⟨tg, iter, [], 0⟩] scope pos) 0 (.ref it) (.ref s2.heap.objs.size) (compEnvC scope cl hL.objs.size X.env))
        (compPost (model X.prog X.w) X.A X.xe none (EP X pins σ Q) (.ref s2.heap.objs.size) hL.objs.size) s₃ := by
    rintro s₃ rfl
    refine compLoop_any (fun n s' => ∃ i ys its k σ' H', Inv Y (pins ++ [(s2.heap.objs.size, { cls := .type "list", data := .seq (its : List Value).toArray k })]) σ' H' s' ∧ tn i s'.heap ∧ (∀ b ∈ fp, H' b = none) ∧ Vals ys its ∧ ys.length ≤ sizeLine ∧ W i n ys σ' H') ?_ m0
      ⟨0, [], [], 0, _, H2, I3, T.keep _ _ _ st2 fun b _ o e => old b o e, fun b hb => (f2 b hb).1, .nil, Nat.zero_le _, w0⟩
    rintro n s4 ⟨i, ys, its, k, σ4, H4, I4, st4, fr4, rv, hz, w4⟩
    have pinD : ∀ p ∈ (pins ++ [(s2.heap.objs.size, ({ cls := .type "list", data := .seq (its : List Value).toArray k } : Obj))]), p.1 = s2.heap.objs.size ∨ p ∈ pins := fun p hp => by
      rcases List.mem_append.mp hp with z | z
      · exact .inr z
      · rw [List.mem_singleton.mp z]; exact .inl rfl
    have F4 := fpOk (pn := pins ++ [(s2.heap.objs.size, { cls := .type "list", data := .seq (its : List Value).toArray k })]) fr4 pinD
    rcases turn i n ys σ4 H4 w4 with ⟨stop, qn⟩ | ⟨go, hlt, N, hN, step⟩
    · have d := T.done Y hYprog hYw hYK hYcalm i _ s4 σ4 H4 (fun _ _ => False) I4 F4 st4 stop
      rw [hYA] at d
      refine thn d fun r s5 ⟨hr, I5⟩ => ?_
      subst hr
      obtain ⟨m, hn, _⟩ := id I5.loc
      rw [hYl] at hn
      refine ⟨m, hn, fun h' sb => ?_⟩
      have hD := I5.pin (s2.heap.objs.size, { cls := .type "list", data := .seq (its : List Value).toArray k }) (List.mem_append_right _ (List.mem_append_right _ (List.mem_singleton.mpr rfl)))
      have hDn : H4 s2.heap.objs.size = none := hD.2.1
      have kp : ∀ b o, b ≠ hL.objs.size → s5.heap.get? b = some o → h'.get? b = some o := fun b o nb e => sb.extBut b o nb e
      have B := I5.base
      rw [hYH, hYs, hYx, hYf] at B
      have s2C : ∀ b o, s2.heap.get? b = some o → b ≠ hL.objs.size := fun b o e => ltC b (Heap.lt_size e)
      have trk : ∀ b u, H4 b = some u → b ≠ s2.heap.objs.size := fun b u e z => by rw [z, hDn] at e; cases e
      have trC : ∀ b u, H4 b = some u → b ≠ hL.objs.size := fun b u e z => by
        have := I5.free
        rw [hYl, ← z, e] at this; cases this
      have hH2 : ∀ b u, H2 b = some u → b ≠ s2.heap.objs.size := fun b u e z => by rw [z, hfresh _ (Nat.le_refl _)] at e; cases e
      refine ⟨.ref s2.heap.objs.size, upd H4 s2.heap.objs.size (.lst ys), I2.call' (ch := fp) (by show s5.os = s2.os; rw [I5.os, hYs]) ⟨fun b o e n hb hx => kp b o (s2C b o e) (B.keep b o e n hb hx), fun b o e n hb hx => ?_, fun b o e n hx => ?_, fun b o e hx => ?_, fun b xs e => ?_, fun b o u e => ?_, fun b ps e => ?_⟩ ?_ I5.bare (fun b hb => ⟨(f2 b hb).2.2.2.1, (f2 b hb).2.1, (f2 b hb).2.2.2.2.1, (f2 b hb).2.2.2.2.2⟩), rfl, qn _ hDn⟩
      · obtain ⟨sl, q⟩ := B.slot b o e n hb hx
        exact ⟨sl, kp b _ (s2C b o e) q⟩
      · rw [upd_ne (Nat.ne_of_lt (Heap.lt_size e))]
        exact B.free b o e n hx
      · obtain ⟨o', q⟩ := B.there b o e hx
        exact ⟨o', kp b o' (s2C b o e) q⟩
      · rw [upd_ne (hH2 b _ e)]
        exact B.tups b xs e
      · rw [upd_ne (hH2 b _ e)]
        exact B.frzs b o u e
      · obtain ⟨more, q⟩ := B.tbls b ps e
        exact ⟨more, by rw [upd_ne (hH2 b _ e)]; exact q⟩
      · intro b u e
        by_cases hb : b = s2.heap.objs.size
        · subst hb
          rw [upd_same] at e
          cases e
          exact ⟨hz, its, k, rv, kp _ _ hDC hD.1⟩
        · rw [upd_ne hb] at e
          have okb := I5.hok b u e
          rw [hYprog, hYw] at okb
          refine okb.stay (fun c v hc q => kp c v ?_ q) (fun c q => by rw [upd_ne (trk c _ q)]; exact q) fun c xs q => by rw [upd_ne (trk c _ q)]; exact q
          rcases hc with z | z
          · rw [z]; exact trC b u e
          · exact trC c _ z
    · have d := T.item Y hYprog hYw hYK hYcalm i _ s4 σ4 H4 (fun _ _ => False) I4 F4 st4 go
      rw [hYA] at d
      refine thn d fun r s5 ⟨u, hr, h5⟩ => ?_
      subst hr
      refine thn h5 fun _ s6 ⟨x, H6, I6, r6, y6, st6, fr6⟩ => ?_
      have I6' := I6.pinned (fpOk (pn := pins ++ [(s2.heap.objs.size, { cls := .type "list", data := .seq (its : List Value).toArray k })]) fr6 pinD) (T.obj _ _ st6)
      have d7 := hg' _ s6 σ4 H6 x u _ I6' r6 (step x H6 y6)
      rw [hYprog, hYw, hYA, hYxe, hYenv] at d7
      refine thn d7 fun _ s7 ⟨σ7, H7, I7, q7⟩ => ?_
      have d8 := he' _ s7 σ7 H7 _ I7 q7
      rw [hYprog, hYw, hYA, hYxe, hYenv] at d8
      refine thn d8 fun u8 s8 ⟨v8, H8, I8, r8, n8⟩ => ?_
      obtain ⟨m', hm, w8⟩ := hN _ _ _ n8
      have pD := I8.pin (s2.heap.objs.size, { cls := .type "list", data := .seq (its : List Value).toArray k }) (List.mem_append_right _ (List.mem_append_left _ (List.mem_append_right _ (List.mem_singleton.mpr rfl))))
      have tn8 : tn (i + 1) s8.heap := T.keep _ _ _ st6 fun b hb o e => (I8.pin (b, o) (List.mem_append_right _ (List.mem_append_right _ (mem_pinsAt hb e)))).1
      have fr8 : ∀ b ∈ fp, H8 b = none := fun b hb => by
        obtain ⟨o, e, d⟩ := T.obj _ _ st6 b hb
        exact (I8.pin (b, o) (List.mem_append_right _ (List.mem_append_right _ (mem_pinsAt hb e)))).2.1
      have J8 : Inv Y pins σ7 H8 s8 := I8.unpinned.unpinned
      have eD : s8.heap.get? s2.heap.objs.size = some { cls := .type "list", data := .seq its.toArray k } := pD.1
      refine call_meets F.slot_list_append ⟨_, eD, rfl⟩ F.entry_list_append (F.args_list_append_2 _ _) (PySem.list_append _ its.toArray k u8 (by rw [List.size_toArray, ← rv.length]; omega)) ⟨eD, ?_⟩
      have other : ∀ b o, b ≠ s2.heap.objs.size → s8.heap.get? b = some o → (s8.heap.update s2.heap.objs.size (Obj.mapSeq fun xs => xs.push u8)).get? b = some o := fun b o nb e => (Heap.get?_update_other s8.heap _ (Ne.symm nb)).trans e
      have J9 := J8.turned (t' := s8.toks) (it := s2.heap.objs.size) (h' := s8.heap.update s2.heap.objs.size (Obj.mapSeq fun xs => xs.push u8)) other pD.2.1 (by rw [hYl]; exact hDC) (.inr (by rw [hYs]; exact Nat.le_refl _))
        (fun x c e => by rw [hYc] at e; exact Nat.ne_of_lt (cellL x c e)) (fun p hp => by rw [hYp] at hp; exact Nat.ne_of_lt (pinL p hp))
      have ep : (its.toArray.push u8) = (its ++ [u8]).toArray := by simp
      obtain ⟨kk, upD⟩ : ∃ kk, (s8.heap.update s2.heap.objs.size (Obj.mapSeq fun xs => xs.push u8)).get? s2.heap.objs.size = some { cls := .type "list", data := .seq (its ++ [u8]).toArray kk } := by
        have z := PySem.IsL.update eD (fun xs => xs.push u8)
        rw [ep] at z
        exact ⟨_, z⟩
      refine ⟨m', hm, i + 1, ys ++ [v8], its ++ [u8], kk, σ7, H8, J9.pins_of fun p hp => ?_, T.keep _ _ _ tn8 fun b hb o e => other b o (Nat.ne_of_lt (fpL b hb)) e, fr8, rv.append (.cons r8 .nil), ?_, w8⟩
      · rcases List.mem_append.mp hp with z | z
        · exact J9.pin p (List.mem_append_right _ z)
        · rw [List.mem_singleton.mp z]
          exact ⟨upD, pD.2.1, by rw [hYl]; exact hDC, by rw [hYf]; exact fun z => absurd (stkL _ z) (Nat.lt_irrefl _), fun v z => by cases z⟩
      · rw [List.length_append, List.length_singleton]; omega
  exact codeAny_compStart_list (loop _ rfl) (T.self _ 0 _ _ _ (T.keep _ _ _ st2 fun b _ o e => old b o e) (loop _ rfl))
theorem comp_list {K : PySem.W.Frag} {a : Addr} {xs : List V} {g : TG} {te : TE} {Q : VK} {σ : St} {H : Hp} (Pv : Nat → List V → St → Hp → Prop) (h0 : Pv 0 [] σ H) (hl : ∀ i ys σ H, i ≤ xs.length → Pv i ys σ H → SqL K H a xs)
    (hs : ∀ i x ys σ H, xs[i]? = some x → Pv i ys σ H → ys.length < sizeLine ∧ g x σ H fun σ3 H3 => te σ3 H3 fun v H4 => Pv (i + 1) (ys ++ [v]) σ3 H4) (hd : ∀ ys σ H, Pv xs.length ys σ H → ∀ p, H p = none → Q (.ref p) (upd H p (.lst ys))) :
    ∃ W : Nat → Nat → List V → St → Hp → Prop, (∃ m, W 0 m [] σ H) ∧ ∀ i m ys σ' H', W i m ys σ' H' →
      ((Itl K a).stop i H' ∧ ∀ p, H' p = none → Q (.ref p) (upd H' p (.lst ys))) ∨
      ((Itl K a).go i H' ∧ ys.length < sizeLine ∧ ∃ N : List V → St → Hp → Prop, (∀ zs σ2 H2, N zs σ2 H2 → ∃ m', m' < m ∧ W (i + 1) m' zs σ2 H2) ∧
        ∀ x H2, (Itl K a).yld i H' x H2 → g x σ' H2 fun σ3 H3 => te σ3 H3 fun v H4 => N (ys ++ [v]) σ3 H4) := by
  refine ⟨fun i m ys σ H => m = xs.length - i ∧ i ≤ xs.length ∧ Pv i ys σ H, ⟨xs.length, by simp, Nat.zero_le _, h0⟩, ?_⟩
  rintro i m ys σ H ⟨rfl, hi, p⟩
  have q := hl i ys σ H hi p
  by_cases hlt : i < xs.length
  · have e : xs[i]? = some xs[i] := by simp [hlt]
    refine .inr ⟨⟨xs, xs[i], q, e⟩, (hs i _ ys σ H e p).1, Pv (i + 1), fun zs σ' H' p' => ⟨xs.length - (i + 1), by omega, rfl, hlt, p'⟩, fun x H' y => ?_⟩
    obtain ⟨e, y⟩ := y
    subst e
    exact (hs i x ys σ _ (y xs q) p).2
  · have e : i = xs.length := by omega
    subst e
    exact .inl ⟨⟨xs, q, Nat.le_refl _⟩, hd ys σ H p⟩
theorem comp_tup {K : PySem.W.Frag} {a : Addr} {xs : List V} {g : TG} {te : TE} {Q : VK} {σ : St} {H : Hp} (Pv : Nat → List V → St → Hp → Prop) (h0 : Pv 0 [] σ H) (hl : ∀ i ys σ H, i ≤ xs.length → Pv i ys σ H → SqT K H a xs)
    (hs : ∀ i x ys σ H, xs[i]? = some x → Pv i ys σ H → ys.length < sizeLine ∧ g x σ H fun σ3 H3 => te σ3 H3 fun v H4 => Pv (i + 1) (ys ++ [v]) σ3 H4) (hd : ∀ ys σ H, Pv xs.length ys σ H → ∀ p, H p = none → Q (.ref p) (upd H p (.lst ys))) :
    ∃ W : Nat → Nat → List V → St → Hp → Prop, (∃ m, W 0 m [] σ H) ∧ ∀ i m ys σ' H', W i m ys σ' H' →
      ((Itt K a).stop i H' ∧ ∀ p, H' p = none → Q (.ref p) (upd H' p (.lst ys))) ∨
      ((Itt K a).go i H' ∧ ys.length < sizeLine ∧ ∃ N : List V → St → Hp → Prop, (∀ zs σ2 H2, N zs σ2 H2 → ∃ m', m' < m ∧ W (i + 1) m' zs σ2 H2) ∧
        ∀ x H2, (Itt K a).yld i H' x H2 → g x σ' H2 fun σ3 H3 => te σ3 H3 fun v H4 => N (ys ++ [v]) σ3 H4) := by
  refine ⟨fun i m ys σ H => m = xs.length - i ∧ i ≤ xs.length ∧ Pv i ys σ H, ⟨xs.length, by simp, Nat.zero_le _, h0⟩, ?_⟩
  rintro i m ys σ H ⟨rfl, hi, p⟩
  have q := hl i ys σ H hi p
  by_cases hlt : i < xs.length
  · have e : xs[i]? = some xs[i] := by simp [hlt]
    refine .inr ⟨⟨xs, xs[i], q, e⟩, (hs i _ ys σ H e p).1, Pv (i + 1), fun zs σ' H' p' => ⟨xs.length - (i + 1), by omega, rfl, hlt, p'⟩, fun x H' y => ?_⟩
    obtain ⟨e, y⟩ := y
    subst e
    exact (hs i x ys σ _ (y xs q) p).2
  · have e : i = xs.length := by omega
    subst e
    exact .inl ⟨⟨xs, q, Nat.le_refl _⟩, hd ys σ H p⟩
theorem comp_range {lo : Int} {n : Nat} {g : TG} {te : TE} {Q : VK} {σ : St} {H : Hp} (Pv : Nat → List V → St → Hp → Prop) (h0 : Pv 0 [] σ H)
    (hs : ∀ i ys σ H, i < n → Pv i ys σ H → ys.length < sizeLine ∧ g (.int (lo + i)) σ H fun σ3 H3 => te σ3 H3 fun v H4 => Pv (i + 1) (ys ++ [v]) σ3 H4) (hd : ∀ ys σ H, Pv n ys σ H → ∀ p, H p = none → Q (.ref p) (upd H p (.lst ys))) :
    ∃ W : Nat → Nat → List V → St → Hp → Prop, (∃ m, W 0 m [] σ H) ∧ ∀ i m ys σ' H', W i m ys σ' H' →
      ((Itr lo n).stop i H' ∧ ∀ p, H' p = none → Q (.ref p) (upd H' p (.lst ys))) ∨
      ((Itr lo n).go i H' ∧ ys.length < sizeLine ∧ ∃ N : List V → St → Hp → Prop, (∀ zs σ2 H2, N zs σ2 H2 → ∃ m', m' < m ∧ W (i + 1) m' zs σ2 H2) ∧
        ∀ x H2, (Itr lo n).yld i H' x H2 → g x σ' H2 fun σ3 H3 => te σ3 H3 fun v H4 => N (ys ++ [v]) σ3 H4) := by
  refine ⟨fun i m ys σ H => m = n - i ∧ i ≤ n ∧ Pv i ys σ H, ⟨n, by simp, Nat.zero_le _, h0⟩, ?_⟩
  rintro i m ys σ H ⟨rfl, hi, p⟩
  by_cases hlt : i < n
  · refine .inr ⟨hlt, (hs i ys σ H hlt p).1, Pv (i + 1), fun zs σ' H' p' => ⟨n - (i + 1), by omega, rfl, hlt, p'⟩, fun x H' y => ?_⟩
    obtain ⟨e, y⟩ := y
    subst e y
    exact (hs i ys σ _ hlt p).2
  · have e : i = n := by omega
    subst e
    exact .inl ⟨Nat.le_refl _, hd ys σ H p⟩
end L2
namespace L2
open PySem PySem.Spec PyProof.Rows
section
variable {P : Program} {w : World} {K : PySem.W.Frag} {mg : Str → Option Value} {base : Heap} {N : List Str} {qual : Str} {scope : Scope} {f : Addr} {cd : Value} {A : Around} {outer : List Env} {s : Shared} {H : Hp} {E : XK}
end
def tRaise (C : Addr) (Ex : Value → Hp → Prop) (t : TA) : TS := fun _ σ H => t σ H fun vs H1 => vs.length ≤ sizeLine ∧ Ex (.ref C) H1
section
variable {P : Program} {w : World} {K : PySem.W.Frag} {mg : Str → Option Value} {base : Heap}
end
end L2
namespace L2
open PySem PySem.Spec PyProof.Rows
def ExcO (a C : Addr) : HO := .ext fun h => ∃ o vs, h.get? a = some o ∧ o.cls = .ref C ∧ o.data = .fields vs
section
variable {X : Cx} {pins : List (Addr × Obj)} {σ : St} {H : Hp} {s : Shared}
end
abbrev Cx.more (X : Cx) (xe : Value → Shared → Prop) (pn : List (Addr × Obj)) : Cx := { X with xe := xe, pn := pn }
theorem Cx.Ok.more {X : Cx} (ok : X.Ok) (xe : Value → Shared → Prop) (pn : List (Addr × Obj)) : (X.more xe pn).Ok :=
  ⟨ok.mod, ok.kind, ok.glob, ok.blt, ok.above, ok.inj, ok.has, ok.cab, ok.hd, ok.frames, ok.stk, ok.exf, ok.bs, ok.bsz, ok.noex, ok.exfs, ok.funs, ok.frf⟩
section
variable {X : Cx} {CX : CXT} {k : Nat} {f : Addr} {fd : FuncData} {ps : List Str} {sp : Sp} {dvs : List V} {ds : List Value} {EE : St → XK} {x : Str} {p pos : Pos} {e : Expr} {es : List Expr} {t : TA}
def tCallX (sp : Sp) (dvs : List V) (EE : St → XK) (t : TA) : TE := fun σ H Q => t σ H fun vs H1 => sp (vs ++ dvs) H1 Q (EE σ)
end
def goneEnds (D : Ends) (i : Nat) : Ends := { nx := fun σ H => D.nx (σ.set i none) H, rt := D.rt, bk := fun σ H => D.bk (σ.set i none) H, ct := fun σ H => D.ct (σ.set i none) H }
def caughtBy (C : Addr) (i : Nat) (ts : TS) (D : Ends) : St → XK := fun σ1 cls _ H1 => cls = .ref C ∧ ∀ a, H1 a = none → ts (goneEnds D i) (σ1.set i (some (.ref a))) (upd H1 a (ExcO a C))
def tTry (C : Addr) (i : Nat) (tb : (St → XK) → TS) (ts : TS) : TS := fun D σ H => tb (caughtBy C i ts D) D σ H
end L2
namespace L2
open PySem PySem.Spec PyProof.Rows
structure Callee (P : Program) (w : World) (K : PySem.W.Frag) (mg : Str → Option Value) (base : Heap) (CX : CXT) (k : Nat) (x : Str) (ps : List Str) (sp : Sp) : Prop where
  has : ∃ (f : Addr) (fd : FuncData), FnOk P w K mg base CX k f fd ps sp ∧ mg x = some (.ref f) ∧ PySem.W.keepIn K (.ref f) = true ∧ Binds K fd ps []
theorem Callee.mk' {P : Program} {w : World} {K : PySem.W.Frag} {mg : Str → Option Value} {base : Heap} {CX : CXT} {k : Nat} {x qual : Str} {st : Stmt} {f : Addr} {fd : FuncData} {ps : List Str} {sp : Sp} (F : Fun K x qual st f fd) (m : mg x = some (.ref f)) (b : Binds K fd ps [])
    (ok : FnOk P w K mg base CX k f fd ps sp) : Callee P w K mg base CX k x ps sp := ⟨⟨f, fd, ok, m, F.kp, b⟩⟩
theorem Callee.mono {P : Program} {w : World} {K : PySem.W.Frag} {mg : Str → Option Value} {base : Heap} {CX : CXT} {j k : Nat} {x : Str} {ps : List Str} {sp : Sp} (c : Callee P w K mg base CX j x ps sp) (h : j ≤ k) : Callee P w K mg base CX k x ps sp :=
  let ⟨f, fd, ok, m, kp, b⟩ := c.has; ⟨⟨f, fd, ok.mono h, m, kp, b⟩⟩
section
variable {X : Cx} {CX : CXT} {k : Nat} {ps : List Str} {sp : Sp} {E : XK} {x : Str} {p pos : Pos} {e : Expr} {es : List Expr} {t : TA}
theorem pe_cal (c : Callee X.prog X.w X.K X.mg X.base CX k x ps sp) (hr : Room k X.A) (hg : Gl X x) (hx : Passes CX X E) (ha : PA X (e :: es) t) (hdb : (x == ("__debug__" : Str)) = false := by decide)
    (he : starEach (e :: es) X.env = (false, eval e X.env) :: starEach es X.env := by rfl) (hpl : (backTo pos (starEach es X.env)).any (·.1) = false := by rfl) : PE X (.Call (.Name x p) (e :: es) [] pos) (tCall sp [] E t) := by
  obtain ⟨f, fd, ok, m, kp, b⟩ := c.has
  exact pe_call ok hr hg m kp b .nil hx ha hdb he hpl
theorem call_isi : CallR X (.builtin "isinstance") (fun xs H Q => ∃ x n t b, xs = [x, .ty n] ∧ TyOf X.K H x t ∧ PySem.W.kitOne X.K t (.type n) = some b ∧ Q (.bl b) H) := by
  intro pins s σ H xs us Q I r h
  obtain ⟨x, n, t, b, rfl, ty, e, q⟩ := h
  obtain ⟨u, w', rfl, rx, ry⟩ := vals2 r
  cases (show w' = Value.type n from ry)
  exact isinst_ok I rx ty e fun tk => ⟨.bl b, H, I.tok tk, rfl, q⟩
end
end L2
namespace L2
open PySem PySem.Spec PyProof.Rows
end L2
namespace L2
open PySem PySem.Spec PyProof.Rows
def CDivW (i j : Int) : Prop := j ≠ 0 ∧ -18446744073709551616 < j ∧ j < 18446744073709551616
end L2
namespace L2
open PySem PySem.Spec PyProof.Rows
section
variable {K : PySem.W.Frag}
def LoopL (K : PySem.W.Frag) (g : TG) (tb : TS) (D : Ends) (σ : St) (x : V) (H1 : Hp) : Prop := ∃ a, x = .ref a ∧ (∃ xs, SqL K H1 a xs) ∧ ∃ W : Nat → Nat → St → Hp → Prop, (∃ m, W 0 m σ H1) ∧ ∀ i m σ H, W i m σ H →
  ((Itl K a).stop i H ∧ D.nx σ H) ∨ ((Itl K a).go i H ∧ ∃ N : St → Hp → Prop, (∀ σ' H', N σ' H' → ∃ m', m' < m ∧ W (i + 1) m' σ' H') ∧ ∀ x H', (Itl K a).yld i H x H' → g x σ H' fun σ2 H2 => tb { D with nx := N, ct := N, bk := D.nx } σ2 H2)
def LoopT (K : PySem.W.Frag) (g : TG) (tb : TS) (D : Ends) (σ : St) (x : V) (H1 : Hp) : Prop := ∃ a, x = .ref a ∧ (∃ xs, SqT K H1 a xs) ∧ ∃ W : Nat → Nat → St → Hp → Prop, (∃ m, W 0 m σ H1) ∧ ∀ i m σ H, W i m σ H →
  ((Itt K a).stop i H ∧ D.nx σ H) ∨ ((Itt K a).go i H ∧ ∃ N : St → Hp → Prop, (∀ σ' H', N σ' H' → ∃ m', m' < m ∧ W (i + 1) m' σ' H') ∧ ∀ x H', (Itt K a).yld i H x H' → g x σ H' fun σ2 H2 => tb { D with nx := N, ct := N, bk := D.nx } σ2 H2)
def LoopR (lo : Int) (n : Nat) (g : TG) (tb : TS) (D : Ends) (σ : St) (H1 : Hp) : Prop := ∃ W : Nat → Nat → St → Hp → Prop, (∃ m, W 0 m σ H1) ∧ ∀ i m σ H, W i m σ H →
  ((Itr lo n).stop i H ∧ D.nx σ H) ∨ ((Itr lo n).go i H ∧ ∃ N : St → Hp → Prop, (∀ σ' H', N σ' H' → ∃ m', m' < m ∧ W (i + 1) m' σ' H') ∧ ∀ x H', (Itr lo n).yld i H x H' → g x σ H' fun σ2 H2 => tb { D with nx := N, ct := N, bk := D.nx } σ2 H2)
theorem for_eqL {te : TE} {g : TG} {tb : TS} {D : Ends} {σ : St} {H : Hp} : tFor (iList K te) g tb D σ H = te σ H fun x H1 => LoopL K g tb D σ x H1 := rfl
theorem for_eqT {te : TE} {g : TG} {tb : TS} {D : Ends} {σ : St} {H : Hp} : tFor (iTup K te) g tb D σ H = te σ H fun x H1 => LoopT K g tb D σ x H1 := rfl
theorem for_eqR1 {ta : TA} {g : TG} {tb : TS} {D : Ends} {σ : St} {H : Hp} : tFor (iRng1 ta) g tb D σ H = ta σ H fun vs H1 => ∃ j : Int, vs = [.int j] ∧ -(2 ^ 62) ≤ j ∧ j < 2 ^ 62 ∧ LoopR 0 j.toNat g tb D σ H1 := rfl
theorem for_eqR2 {ta : TA} {g : TG} {tb : TS} {D : Ends} {σ : St} {H : Hp} : tFor (iRng2 ta) g tb D σ H = ta σ H fun vs H1 => ∃ i j : Int, vs = [.int i, .int j] ∧ (-(2 ^ 62) ≤ i ∧ i < 2 ^ 62 ∧ -(2 ^ 62) ≤ j ∧ j < 2 ^ 62) ∧ LoopR i (j - i).toNat g tb D σ H1 := rfl
theorem LoopL.mk {a : Addr} {xs : List V} {g : TG} {tb : TS} {D : Ends} {σ : St} {H : Hp} (hS : SqL K H a xs) (Pv : Nat → St → Hp → Prop) (h0 : Pv 0 σ H) (hl : ∀ i σ H, i ≤ xs.length → Pv i σ H → SqL K H a xs)
    (hs : ∀ i x σ H, xs[i]? = some x → Pv i σ H → g x σ H fun σ2 H2 => tb { D with nx := Pv (i + 1), ct := Pv (i + 1), bk := D.nx } σ2 H2) (hd : ∀ σ H, Pv xs.length σ H → D.nx σ H) : LoopL K g tb D σ (.ref a) H := ⟨a, rfl, ⟨xs, hS⟩, for_list Pv h0 hl hs hd⟩
theorem LoopT.mk {a : Addr} {xs : List V} {g : TG} {tb : TS} {D : Ends} {σ : St} {H : Hp} (hS : SqT K H a xs) (Pv : Nat → St → Hp → Prop) (h0 : Pv 0 σ H) (hl : ∀ i σ H, i ≤ xs.length → Pv i σ H → SqT K H a xs)
    (hs : ∀ i x σ H, xs[i]? = some x → Pv i σ H → g x σ H fun σ2 H2 => tb { D with nx := Pv (i + 1), ct := Pv (i + 1), bk := D.nx } σ2 H2) (hd : ∀ σ H, Pv xs.length σ H → D.nx σ H) : LoopT K g tb D σ (.ref a) H := ⟨a, rfl, ⟨xs, hS⟩, for_tup Pv h0 hl hs hd⟩
theorem LoopR.mk {lo : Int} {n : Nat} {g : TG} {tb : TS} {D : Ends} {σ : St} {H : Hp} (Pv : Nat → St → Hp → Prop) (h0 : Pv 0 σ H)
    (hs : ∀ i σ H, i < n → Pv i σ H → g (.int (lo + i)) σ H fun σ2 H2 => tb { D with nx := Pv (i + 1), ct := Pv (i + 1), bk := D.nx } σ2 H2) (hd : ∀ σ H, Pv n σ H → D.nx σ H) : LoopR lo n g tb D σ H := for_range Pv h0 hs hd
def CompL (K : PySem.W.Frag) (k : Nat) (js : List Nat) (g : TG) (te : TE) (σ : St) (x : V) (H1 : Hp) (Q : VK) : Prop := ∃ a, x = .ref a ∧ (∃ xs, SqL K H1 a xs) ∧ ∃ W : Nat → Nat → List V → St → Hp → Prop, (∃ m, W 0 m [] (compSt k js σ) H1) ∧ ∀ i m ys σ' H', W i m ys σ' H' →
    ((Itl K a).stop i H' ∧ ∀ p, H' p = none → Q (.ref p) (upd H' p (.lst ys))) ∨
    ((Itl K a).go i H' ∧ ys.length < sizeLine ∧ ∃ N : List V → St → Hp → Prop, (∀ zs σ2 H2, N zs σ2 H2 → ∃ m', m' < m ∧ W (i + 1) m' zs σ2 H2) ∧ ∀ x H2, (Itl K a).yld i H' x H2 → g x σ' H2 fun σ3 H3 => te σ3 H3 fun v H4 => N (ys ++ [v]) σ3 H4)
def CompT (K : PySem.W.Frag) (k : Nat) (js : List Nat) (g : TG) (te : TE) (σ : St) (x : V) (H1 : Hp) (Q : VK) : Prop := ∃ a, x = .ref a ∧ (∃ xs, SqT K H1 a xs) ∧ ∃ W : Nat → Nat → List V → St → Hp → Prop, (∃ m, W 0 m [] (compSt k js σ) H1) ∧ ∀ i m ys σ' H', W i m ys σ' H' →
    ((Itt K a).stop i H' ∧ ∀ p, H' p = none → Q (.ref p) (upd H' p (.lst ys))) ∨
    ((Itt K a).go i H' ∧ ys.length < sizeLine ∧ ∃ N : List V → St → Hp → Prop, (∀ zs σ2 H2, N zs σ2 H2 → ∃ m', m' < m ∧ W (i + 1) m' zs σ2 H2) ∧ ∀ x H2, (Itt K a).yld i H' x H2 → g x σ' H2 fun σ3 H3 => te σ3 H3 fun v H4 => N (ys ++ [v]) σ3 H4)
def CompR (lo : Int) (n k : Nat) (js : List Nat) (g : TG) (te : TE) (σ : St) (H1 : Hp) (Q : VK) : Prop := ∃ W : Nat → Nat → List V → St → Hp → Prop, (∃ m, W 0 m [] (compSt k js σ) H1) ∧ ∀ i m ys σ' H', W i m ys σ' H' →
    ((Itr lo n).stop i H' ∧ ∀ p, H' p = none → Q (.ref p) (upd H' p (.lst ys))) ∨
    ((Itr lo n).go i H' ∧ ys.length < sizeLine ∧ ∃ N : List V → St → Hp → Prop, (∀ zs σ2 H2, N zs σ2 H2 → ∃ m', m' < m ∧ W (i + 1) m' zs σ2 H2) ∧ ∀ x H2, (Itr lo n).yld i H' x H2 → g x σ' H2 fun σ3 H3 => te σ3 H3 fun v H4 => N (ys ++ [v]) σ3 H4)
theorem comp_eqL {k : Nat} {js : List Nat} {ti : TE} {g : TG} {te : TE} {σ : St} {H : Hp} {Q : VK} : tComp (iList K ti) k js g te σ H Q = ti σ H fun x H1 => CompL K k js g te σ x H1 Q := rfl
theorem comp_eqT {k : Nat} {js : List Nat} {ti : TE} {g : TG} {te : TE} {σ : St} {H : Hp} {Q : VK} : tComp (iTup K ti) k js g te σ H Q = ti σ H fun x H1 => CompT K k js g te σ x H1 Q := rfl
theorem comp_eqR1 {k : Nat} {js : List Nat} {ta : TA} {g : TG} {te : TE} {σ : St} {H : Hp} {Q : VK} : tComp (iRng1 ta) k js g te σ H Q = ta σ H fun vs H1 => ∃ j : Int, vs = [.int j] ∧ -(2 ^ 62) ≤ j ∧ j < 2 ^ 62 ∧ CompR 0 j.toNat k js g te σ H1 Q := rfl
theorem CompL.mk {a : Addr} {xs : List V} {k : Nat} {js : List Nat} {g : TG} {te : TE} {Q : VK} {σ : St} {H : Hp} (hS : SqL K H a xs) (Pv : Nat → List V → St → Hp → Prop) (h0 : Pv 0 [] (compSt k js σ) H) (hl : ∀ i ys σ H, i ≤ xs.length → Pv i ys σ H → SqL K H a xs)
    (hs : ∀ i x ys σ H, xs[i]? = some x → Pv i ys σ H → ys.length < sizeLine ∧ g x σ H fun σ3 H3 => te σ3 H3 fun v H4 => Pv (i + 1) (ys ++ [v]) σ3 H4) (hd : ∀ ys σ H, Pv xs.length ys σ H → ∀ p, H p = none → Q (.ref p) (upd H p (.lst ys))) :
    CompL K k js g te σ (.ref a) H Q := ⟨a, rfl, ⟨xs, hS⟩, comp_list Pv h0 hl hs hd⟩
theorem CompT.mk {a : Addr} {xs : List V} {k : Nat} {js : List Nat} {g : TG} {te : TE} {Q : VK} {σ : St} {H : Hp} (hS : SqT K H a xs) (Pv : Nat → List V → St → Hp → Prop) (h0 : Pv 0 [] (compSt k js σ) H) (hl : ∀ i ys σ H, i ≤ xs.length → Pv i ys σ H → SqT K H a xs)
    (hs : ∀ i x ys σ H, xs[i]? = some x → Pv i ys σ H → ys.length < sizeLine ∧ g x σ H fun σ3 H3 => te σ3 H3 fun v H4 => Pv (i + 1) (ys ++ [v]) σ3 H4) (hd : ∀ ys σ H, Pv xs.length ys σ H → ∀ p, H p = none → Q (.ref p) (upd H p (.lst ys))) :
    CompT K k js g te σ (.ref a) H Q := ⟨a, rfl, ⟨xs, hS⟩, comp_tup Pv h0 hl hs hd⟩
theorem CompR.mk {lo : Int} {n k : Nat} {js : List Nat} {g : TG} {te : TE} {Q : VK} {σ : St} {H : Hp} (Pv : Nat → List V → St → Hp → Prop) (h0 : Pv 0 [] (compSt k js σ) H)
    (hs : ∀ i ys σ H, i < n → Pv i ys σ H → ys.length < sizeLine ∧ g (.int (lo + i)) σ H fun σ3 H3 => te σ3 H3 fun v H4 => Pv (i + 1) (ys ++ [v]) σ3 H4) (hd : ∀ ys σ H, Pv n ys σ H → ∀ p, H p = none → Q (.ref p) (upd H p (.lst ys))) :
    CompR lo n k js g te σ H Q := comp_range Pv h0 hs hd
end
theorem cxOf_K {CX : CXT} {P : Program} {w : World} {K : PySem.W.Frag} {mg : Str → Option Value} {base : Heap} {N : List Str} {qual : Str} {scope : Scope} {f : Addr} {cd : Value} {A : Around} {outer : List Env} {s : Shared} {H : Hp} {E : XK} : (cxOf CX P w K mg base N qual scope f cd A outer s H E).K = K := rfl
theorem cxComp_K {X : Cx} {N : List Str} {scope : Scope} {cl : List (Str × Addr)} {C : Addr} {ex : List Addr} {s : Shared} {H : Hp} : (cxComp X N scope cl C ex s H).K = X.K := rfl
def tyS : V → Option String
  | .int _ => some "int"
  | .bl _ => some "bool"
  | .str _ => some "str"
  | .non => some "NoneType"
  | _ => none
def isiN (t n : String) : Bool := t == n || (t == "bool" && n == "int")
def isiB (x : V) (n : String) : Bool := match tyS x with
  | some t => isiN t n
  | none => false
theorem isi_ii {i : Int} : isiB (.int i) "int" = true := by show isiN "int" "int" = true; decide +kernel
theorem isi_ib {i : Int} : isiB (.int i) "bool" = false := by show isiN "int" "bool" = false; decide +kernel
theorem isi_bi {b : Bool} : isiB (.bl b) "int" = true := by show isiN "bool" "int" = true; decide +kernel
theorem isi_bb {b : Bool} : isiB (.bl b) "bool" = true := by show isiN "bool" "bool" = true; decide +kernel
theorem isi_it {i : Int} : isiB (.int i) "tuple" = false := by show isiN "int" "tuple" = false; decide +kernel
theorem kit_type {K : PySem.W.Frag} {t n : String} {b : Bool} (e : (if (Value.type t == Value.type n) = true then some true else if PySem.W.kitMeta n = true then (fastBuiltinMro t).map (·.contains (.type n)) else none) = some b) : PySem.W.kitOne K (.type t) (.type n) = some b := by
  unfold PySem.W.kitOne
  split at e
  · rename_i h; rw [if_pos h]; exact e
  · rename_i h; rw [if_neg h]; exact e
theorem kit_plain {K : PySem.W.Frag} {x : V} {t n : String} (hn : n ∈ ["int", "bool", "tuple", "list", "str"]) (ht : tyS x = some t) : PySem.W.kitOne K (.type t) (.type n) = some (isiB x n) := by
  simp only [List.mem_cons, List.mem_nil_iff, or_false] at hn
  cases x <;> simp only [tyS, reduceCtorEq, Option.some.injEq] at ht <;> subst ht <;> rcases hn with rfl | rfl | rfl | rfl | rfl <;> refine kit_type ?_ <;> simp only [isiB, tyS] <;> decide +kernel
theorem call_isiS {X : Cx} : CallR X (.builtin "isinstance") (fun xs H Q => ∃ x n, xs = [x, .ty n] ∧ (n ∈ ["int", "bool", "tuple", "list", "str"] ∧ (tyS x).isSome = true) ∧ Q (.bl (isiB x n)) H) := by
  intro pins s σ H xs us Q I r h
  obtain ⟨x, n, rfl, ⟨hn, hx⟩, q⟩ := h
  obtain ⟨t, ht⟩ := Option.isSome_iff_exists.mp hx
  refine call_isi pins s σ H _ us Q I r ⟨x, n, .type t, isiB x n, rfl, ?_, kit_plain hn ht, q⟩
  cases x <;> simp only [tyS, reduceCtorEq, Option.some.injEq] at ht <;> subst ht
  · exact .non
  · exact .bl _
  · exact .int _
  · exact .str _
end L2
namespace L2
open PySem PySem.Spec PyProof.Rows
theorem na2 : (Int.natAbs 2 < 18446744073709551616) = True := eq_true (by decide)
theorem na10 : (Int.natAbs 10 < 18446744073709551616) = True := eq_true (by decide)
theorem same_new {H : Hp} {p : Addr} (h : H p = none) (o : HO) : Same H (upd H p o) := fun b u q => by rw [upd_ne (ne_of_none q h)]; exact q
theorem small {n : Nat} (h : n ≤ 1000) : n ≤ sizeLine := Nat.le_of_lt (small1000 h)
theorem Same.tup {K : PySem.W.Frag} {H H' : Hp} {a : Addr} {xs : List V} (e : Same H H') (h : SqT K H a xs) : SqT K H' a xs := by
  rcases h with (h | ⟨o, h⟩) | h
  · exact .inl (.inl (e _ _ h))
  · exact .inl (.inr ⟨o, e _ _ h⟩)
  · exact .inr h
theorem st_one {σ : St} (h : σ.length = 1) : ∃ z, σ = [z] := by
  match σ, h with
  | [z], _ => exact ⟨z, rfl⟩
theorem getmap {α β : Type} {f : α → β} {l : List α} {i : Nat} {y : β} (h : (l.map f)[i]? = some y) : ∃ x, l[i]? = some x ∧ y = f x := by
  rw [List.getElem?_map] at h
  obtain ⟨x, h1, h2⟩ := Option.map_eq_some_iff.mp h
  exact ⟨x, h1, h2.symm⟩
theorem take_succ' {α : Type} {l : List α} {i : Nat} {x : α} (h : l[i]? = some x) : l.take (i + 1) = l.take i ++ [x] := by
  rw [List.take_succ, h]; rfl
theorem CompL.vals {K : PySem.W.Frag} {a : Addr} {xs : List V} {te : TE} {Q : VK} {σ : St} {H : Hp} {fn : V → V} (hS : SqL K H a xs) (hz : xs.length ≤ 1000)
    (hs : ∀ x ∈ xs, ∀ H1, Same H H1 → ∀ Q' : VK, (∀ H2, Same H1 H2 → Q' (fn x) H2) → te [some x] H1 Q')
    (hd : ∀ H1, Same H H1 → ∀ p, H1 p = none → Q (.ref p) (upd H1 p (.lst (xs.map fn)))) : CompL K 1 [] (gName 0) te σ (.ref a) H Q := by
  refine CompL.mk hS (fun i ys σ' H' => Same H H' ∧ ys = (xs.take i).map fn ∧ σ'.length = 1) ⟨Same.refl _, rfl, rfl⟩ (fun i ys σ' H' _ h => h.1.seq hS) (fun i x ys σ' H' e h => ?_) (fun ys σ' H' h p hp => ?_)
  · obtain ⟨h1, rfl, h3⟩ := h
    obtain ⟨z, rfl⟩ := st_one h3
    refine ⟨?_, ?_⟩
    · rw [List.length_map, List.length_take]
      exact Nat.lt_of_le_of_lt (Nat.min_le_right _ _) (small1000 hz)
    · refine hs x (List.mem_of_getElem? e) H' h1 _ fun H2 h2 => ⟨h1.trans h2, ?_, rfl⟩
      rw [take_succ' e, List.map_append]; rfl
  · obtain ⟨h1, rfl, h3⟩ := h
    rw [List.take_length]
    exact hd H' h1 p hp
end L2
namespace L2
open PySem PySem.Spec PyProof.Rows
section
variable {X : Cx}
def rInT : R2 := fun x y H Q => ∃ p xs, y = .ref p ∧ H p = some (.tup xs) ∧ flatV x = true ∧ xs.all flatV = true ∧ Q (.bl (inV x xs)) H
def rInL : R2 := fun x y H Q => ∃ p xs, y = .ref p ∧ H p = some (.lst xs) ∧ flatV x = true ∧ xs.all flatV = true ∧ Q (.bl (inV x xs)) H
theorem op_inT : OpR X (compareOp .In) rInT := by
  intro pins s σ H x y v u Q I rx ry h
  obtain ⟨p, xs, rfl, hq, fx, fs, q⟩ := h
  exact op_in_seq pins s σ H x _ v u Q I rx ry ⟨p, xs, rfl, .inr (.of hq), fx, fs, q⟩
def rIxLH : R2 := fun x y H Q => ∃ p xs i v, x = .ref p ∧ y = .int i ∧ H p = some (.lst xs) ∧ atI xs i = some v ∧ Q v H
def rIxTH : R2 := fun x y H Q => ∃ p xs i v, x = .ref p ∧ y = .int i ∧ H p = some (.tup xs) ∧ atI xs i = some v ∧ Q v H
theorem ix_listH : IxR X rIxLH := by
  intro value slice pins s σ H x y v u Q I rx ry h hs
  obtain ⟨p, xs, i, z, rfl, rfl, hq, he, q⟩ := h
  exact ix_list value slice pins s σ H _ _ v u Q I rx ry ⟨p, xs, i, z, rfl, rfl, .of hq, he, q⟩ hs
theorem ix_tupH : IxR X rIxTH := by
  intro value slice pins s σ H x y v u Q I rx ry h hs
  obtain ⟨p, xs, i, z, rfl, rfl, hq, he, q⟩ := h
  exact ix_tup value slice pins s σ H _ _ v u Q I rx ry ⟨p, xs, i, z, rfl, rfl, .of hq, he, q⟩ hs
end
end L2
namespace L2
open PySem PySem.Spec PyProof.Rows
section
variable {X : Cx}
def gTupH (n : Nat) (t : TGs) : TG := fun v σ H Q => ∃ a xs, v = .ref a ∧ H a = some (.tup xs) ∧ xs.length = n ∧ t xs σ H Q
theorem pg_tupH {es : List Expr} {k : Nat} {pos : Pos} {t : TGs} {n : Nat} (h : PG X (.Tuple es k pos) (gTup X.K n t)) : PG X (.Tuple es k pos) (gTupH n t) := by
  intro pins s σ H v u Q I r q
  obtain ⟨a, xs, e, ha, hl, q⟩ := q
  exact h pins s σ H v u Q I r ⟨a, xs, e, .of ha, hl, q⟩
def tApp (to te : TE) : TE := fun σ H Q => to σ H fun x H1 => ∃ l, x = .ref l ∧ (∃ xs, H1 l = some (.lst xs)) ∧ te σ H1 fun v H2 => ∃ xs, H2 l = some (.lst xs) ∧ xs.length < sizeLine ∧ Q .non (upd H2 l (.lst (xs ++ [v])))
theorem pe_app {o e : Expr} {to te : TE} {apos cpos : Pos} (ho : PE X o to) (he : PE X e te)
    (hbase : attributeBase o "append" X.env (eval o X.env) = eval o X.env := by rfl) (hfew : ((backTo cpos (starEach [e] X.env)).all (fun x => !x.1) && (backToKw cpos (keywordEach [] X.env)).all (fun x => x.1.isSome)
      && decide ([e].length + ([] : List Keyword).length + (if ([] : List Keyword).isEmpty then 0 else 1) < 30)) = true := by rfl)
    (hline : (apos.endLine == cpos.line) = true := by rfl) (hs : starEach [e] X.env = [(false, eval e X.env)] := by rfl) : PE X (.Call (.Attribute o "append" apos) [e] [] cpos) (tApp to te) := by
  intro pins s σ H Q I h
  refine wpAny_Call_method_late hbase hfew hline rfl (thn (ho pins s σ H _ I h) fun v s1 ⟨x, H1, I1, r1, q1⟩ => ?_)
  obtain ⟨l, rfl, ⟨xs1, hx1⟩, q2⟩ := q1
  obtain ⟨h1, h2⟩ := tyV_is (T := "list") I1 r1 (.inl ⟨rfl, _, .of hx1⟩)
  refine ⟨"list", "list.append", PySem.F.plainAttrs_list, PySem.F.slot_list_append, PySem.F.type_list_append, h1, h2, ?_⟩
  have hA := (pa_cons he pa_nil hs) cpos pins s1 σ H1 (fun vs H2 => match vs with | [v] => ∃ xs, H2 l = some (.lst xs) ∧ xs.length < sizeLine ∧ Q .non (upd H2 l (.lst (xs ++ [v]))) | _ => False) I1 q2
  rw [hs] at hA ⊢
  refine Calls.callWith_builtin rfl (Calls.evalArgs_plain ?_)
  refine thn hA fun us s2 ⟨vs, H2, I2, r2, q3⟩ => ?_
  match vs, q3 with
  | [v2], ⟨xs, hx, hz, q⟩ => exact mt_append pins s2 σ H2 (.ref l) [v2] v us Q I2 r1 r2 ⟨l, xs, v2, rfl, rfl, hx, hz, q⟩
end
def SameX (l : Addr) (H H' : Hp) : Prop := ∀ b o, b ≠ l → H b = some o → H' b = some o
theorem SameX.refl (l : Addr) (H : Hp) : SameX l H H := fun _ _ _ h => h
theorem SameX.trans {l : Addr} {H H1 H2 : Hp} (a : SameX l H H1) (b : SameX l H1 H2) : SameX l H H2 := fun c o n h => b c o n (a c o n h)
theorem SameX.set {l : Addr} (H : Hp) (o : HO) : SameX l H (upd H l o) := fun b u n e => by rw [upd_ne n]; exact e
end L2
namespace L2
open PySem PySem.Spec PyProof.Rows
def IsRv (h : Heap) (a t : Addr) (i : Int) : Prop := ∃ o, h.get? a = some o ∧ o.cls = .type "reversed" ∧ o.data = .fields #[.ref t, rawInt i]
theorem IsRv.typeIs {s : Shared} {a t : Addr} {i : Int} (x : IsRv s.heap a t i) : s.TypeIs (.ref a) "reversed" := let ⟨o, ho, hc, _⟩ := x; ⟨o, ho, hc⟩
section
variable {prog : Program} {w : World} {A : Around} {E : Value → Shared → Prop} {s : Shared}
end
def Itrv (K : PySem.W.Frag) (a : Addr) (n : Nat) : It := ⟨fun i H => ∃ xs, SqT K H a xs ∧ xs.length = n ∧ i < n, fun i H x H' => H' = H ∧ ∀ xs, SqT K H a xs → xs[n - 1 - i]? = some x, fun i H => ∃ xs, SqT K H a xs ∧ xs.length = n ∧ i = n⟩
section
variable {X : Cx} {tg : Expr}
def iRevT (K : PySem.W.Frag) (te : TE) : TI := fun σ H R => te σ H fun x H1 => ∃ a xs, x = .ref a ∧ SqT K H1 a xs ∧ R (Itrv K a xs.length) H1
end
def LoopV (K : PySem.W.Frag) (g : TG) (tb : TS) (D : Ends) (σ : St) (x : V) (H1 : Hp) : Prop := ∃ a xs, x = .ref a ∧ SqT K H1 a xs ∧ ∃ W : Nat → Nat → St → Hp → Prop, (∃ m, W 0 m σ H1) ∧ ∀ i m σ H, W i m σ H →
  ((Itrv K a xs.length).stop i H ∧ D.nx σ H) ∨ ((Itrv K a xs.length).go i H ∧ ∃ N : St → Hp → Prop, (∀ σ' H', N σ' H' → ∃ m', m' < m ∧ W (i + 1) m' σ' H') ∧ ∀ x H', (Itrv K a xs.length).yld i H x H' → g x σ H' fun σ2 H2 => tb { D with nx := N, ct := N, bk := D.nx } σ2 H2)
theorem for_eqV {K : PySem.W.Frag} {te : TE} {g : TG} {tb : TS} {D : Ends} {σ : St} {H : Hp} : tFor (iRevT K te) g tb D σ H = te σ H fun x H1 => LoopV K g tb D σ x H1 := rfl
theorem LoopV.mk {K : PySem.W.Frag} {a : Addr} {xs : List V} {g : TG} {tb : TS} {D : Ends} {σ : St} {H : Hp} (hS : SqT K H a xs) (Pv : Nat → St → Hp → Prop) (h0 : Pv 0 σ H) (hl : ∀ i σ H, i ≤ xs.length → Pv i σ H → SqT K H a xs)
    (hs : ∀ i x σ H, i < xs.length → xs[xs.length - 1 - i]? = some x → Pv i σ H → g x σ H fun σ2 H2 => tb { D with nx := Pv (i + 1), ct := Pv (i + 1), bk := D.nx } σ2 H2) (hd : ∀ σ H, Pv xs.length σ H → D.nx σ H) : LoopV K g tb D σ (.ref a) H := by
  refine ⟨a, xs, rfl, hS, fun i m σ H => m = xs.length - i ∧ i ≤ xs.length ∧ Pv i σ H, ⟨xs.length, by simp, Nat.zero_le _, h0⟩, ?_⟩
  rintro i m σ H ⟨rfl, hi, p⟩
  have q := hl i σ H hi p
  by_cases hlt : i < xs.length
  · refine .inr ⟨⟨xs, q, rfl, hlt⟩, Pv (i + 1), fun σ' H' p' => ⟨xs.length - (i + 1), by omega, rfl, hlt, p'⟩, fun x H' y => ?_⟩
    obtain ⟨e, y⟩ := y
    subst e
    exact hs i x σ _ hlt (y xs q) p
  · have e : i = xs.length := by omega
    subst e
    exact .inl ⟨⟨xs, q, rfl, rfl⟩, hd σ H p⟩
end L2
namespace L2
open PySem PySem.Spec PyProof.Rows
section
variable {X : Cx}
def rCatA (K : PySem.W.Frag) : R2 := fun x y H Q => ∃ a b xs ys, x = .ref a ∧ y = .ref b ∧ SqT K H a xs ∧ SqT K H b ys ∧ xs.length + ys.length ≤ sizeLine ∧
  (xs = [] → Q (.ref b) H) ∧ (xs ≠ [] → ys = [] → Q (.ref a) H) ∧ (xs ≠ [] → ys ≠ [] → ∀ p, H p = none → Q (.ref p) (upd H p (.tup (xs ++ ys))))
def eqVs : List V → List V → Bool
  | [], [] => true
  | x :: xs, y :: ys => eqV x y && eqVs xs ys
  | _, _ => false
theorem eqVs_len : ∀ {xs ys : List V}, xs.length ≠ ys.length → eqVs xs ys = false
  | [], [], h => absurd rfl h
  | x :: xs, y :: ys, h => by
    have e : xs.length ≠ ys.length := fun z => h (by simp [z])
    simp [eqVs, eqVs_len e]
  | [], _ :: _, _ => rfl
  | _ :: _, [], _ => rfl
def eqAtI (xs ys : List V) (j : Nat) : Bool := match xs[j]?, ys[j]? with | some x, some y => eqV x y | _, _ => false
theorem eqVs_all : ∀ {xs ys : List V}, xs.length = ys.length → (List.range xs.length).all (eqAtI xs ys) = eqVs xs ys
  | [], [], _ => rfl
  | x :: xs, y :: ys, h => by
    have e : xs.length = ys.length := by simpa using h
    rw [List.length_cons, List.range_succ_eq_map, List.all_cons, List.all_map]
    have z : (eqAtI (x :: xs) (y :: ys) ∘ Nat.succ) = eqAtI xs ys := by funext j; simp [eqAtI]
    rw [z, eqVs_all e]
    rfl
  | [], _ :: _, h => by cases h
  | _ :: _, [], h => by cases h
theorem eqAtI_ok {A : Around} {s : Shared} {xs ys : List V} {us ws : List Value} (r1 : Vals xs us) (r2 : Vals ys ws) (f1 : xs.all flatV = true) (f2 : ys.all flatV = true) (j : Nat) (h1 : j < us.toArray.size) (h2 : j < ws.toArray.size) :
    SeqAt.EqAt A s us.toArray[j] ws.toArray[j] (eqAtI xs ys j) := by
  have l1 := r1.length
  have l2 := r2.length
  have k1 : j < xs.length := by rw [l1]; simpa using h1
  have k2 : j < ys.length := by rw [l2]; simpa using h2
  obtain ⟨u, hu, ru⟩ := r1.get (List.getElem?_eq_getElem k1)
  obtain ⟨v, hv, rv⟩ := r2.get (List.getElem?_eq_getElem k2)
  have e1 : us.toArray[j] = u := by
    have z : us[j]? = some (us[j]'(by simpa using h1)) := List.getElem?_eq_getElem _
    rw [z] at hu
    simpa using hu
  have e2 : ws.toArray[j] = v := by
    have z : ws[j]? = some (ws[j]'(by simpa using h2)) := List.getElem?_eq_getElem _
    rw [z] at hv
    simpa using hv
  rw [e1, e2]
  have e3 : eqAtI xs ys j = eqV xs[j] ys[j] := by simp [eqAtI, k1, k2]
  rw [e3]
  exact eqAt_V ru rv (List.all_eq_true.mp f1 _ (List.getElem_mem k1)) (List.all_eq_true.mp f2 _ (List.getElem_mem k2))
def rEqL (K : PySem.W.Frag) : R2 := fun x y H Q => ∃ a b xs ys, x = .ref a ∧ y = .ref b ∧ SqL K H a xs ∧ SqL K H b ys ∧ xs.all flatV = true ∧ ys.all flatV = true ∧ Q (.bl (eqVs xs ys)) H
def rEqT (K : PySem.W.Frag) : R2 := fun x y H Q => ∃ a b xs ys, x = .ref a ∧ y = .ref b ∧ SqT K H a xs ∧ SqT K H b ys ∧ xs.all flatV = true ∧ ys.all flatV = true ∧ Q (.bl (eqVs xs ys)) H
theorem flat_ints : ∀ (ns : List Int), (ns.map V.int).all flatV = true
  | [] => rfl
  | n :: ns => by simp [flatV]
end
end L2
namespace L2
open PySem PySem.Spec PyProof.Rows
section
variable {pg : Program} {wd : World} {B : Around} {X0 : Value → Shared → Prop} {s0 : Shared}
structure Apart5 (z ti ox j1 j2 t1 t2 : Addr) : Prop where
  ti_z : ti ≠ z
  ox_z : ox ≠ z
  j1_z : j1 ≠ z
  j2_z : j2 ≠ z
  ti_ox : ti ≠ ox
  ti_j1 : ti ≠ j1
  ti_j2 : ti ≠ j2
  ox_j1 : ox ≠ j1
  ox_j2 : ox ≠ j2
  j12 : j1 ≠ j2
  t1_z : t1 ≠ z
  t1_ox : t1 ≠ ox
  t1_j1 : t1 ≠ j1
  t1_j2 : t1 ≠ j2
  t2_z : t2 ≠ z
  t2_ox : t2 ≠ ox
  t2_j1 : t2 ≠ j1
  t2_j2 : t2 ≠ j2
end
end L2
namespace L2
open PySem PySem.Spec PyProof.Rows
def Itz (K : PySem.W.Frag) (a b : Addr) : It := ⟨fun i H => ∃ xs ys x y, SqT K H a xs ∧ SqT K H b ys ∧ xs[i]? = some x ∧ ys[i]? = some y,
  fun i H v H' => ∃ T x y, v = .ref T ∧ H T = none ∧ H' = upd H T (.tup [x, y]) ∧ ∀ xs ys, SqT K H a xs → SqT K H b ys → xs[i]? = some x ∧ ys[i]? = some y, fun i H => ∃ xs ys, SqT K H a xs ∧ SqT K H b ys ∧ (xs.length ≤ i ∨ ys.length ≤ i)⟩
section
variable {X : Cx} {es : List Expr} {x1 : Nat} {pp : Pos}
def iZip (K : PySem.W.Frag) (ta : TA) : TI := fun σ H R => ta σ H fun vs H1 => ∃ a b xs ys, vs = [.ref a, .ref b] ∧ SqT K H1 a xs ∧ SqT K H1 b ys ∧ R (Itz K a b) H1
end
def LoopZ (K : PySem.W.Frag) (g : TG) (tb : TS) (D : Ends) (σ : St) (vs : List V) (H1 : Hp) : Prop := ∃ a b xs ys, vs = [.ref a, .ref b] ∧ SqT K H1 a xs ∧ SqT K H1 b ys ∧ ∃ W : Nat → Nat → St → Hp → Prop, (∃ m, W 0 m σ H1) ∧ ∀ i m σ H, W i m σ H →
  ((Itz K a b).stop i H ∧ D.nx σ H) ∨ ((Itz K a b).go i H ∧ ∃ N : St → Hp → Prop, (∀ σ' H', N σ' H' → ∃ m', m' < m ∧ W (i + 1) m' σ' H') ∧ ∀ x H', (Itz K a b).yld i H x H' → g x σ H' fun σ2 H2 => tb { D with nx := N, ct := N, bk := D.nx } σ2 H2)
theorem for_eqZ {K : PySem.W.Frag} {ta : TA} {g : TG} {tb : TS} {D : Ends} {σ : St} {H : Hp} : tFor (iZip K ta) g tb D σ H = ta σ H fun vs H1 => LoopZ K g tb D σ vs H1 := rfl
theorem LoopZ.mk {K : PySem.W.Frag} {a b : Addr} {xs ys : List V} {g : TG} {tb : TS} {D : Ends} {σ : St} {H : Hp} (n : Nat) (hn : n = min xs.length ys.length) (h1 : SqT K H a xs) (h2 : SqT K H b ys) (Pv : Nat → St → Hp → Prop) (h0 : Pv 0 σ H) (hl : ∀ i σ H, i ≤ n → Pv i σ H → SqT K H a xs ∧ SqT K H b ys)
    (hs : ∀ i x y σ H T, i < n → xs[i]? = some x → ys[i]? = some y → Pv i σ H → H T = none → g (.ref T) σ (upd H T (.tup [x, y])) fun σ2 H2 => tb { D with nx := Pv (i + 1), ct := Pv (i + 1), bk := D.nx } σ2 H2) (hd : ∀ σ H, Pv n σ H → D.nx σ H) :
    LoopZ K g tb D σ [.ref a, .ref b] H := by
  subst hn
  refine ⟨a, b, xs, ys, rfl, h1, h2, fun i m σ H => m = min xs.length ys.length - i ∧ i ≤ min xs.length ys.length ∧ Pv i σ H, ⟨_, rfl, Nat.zero_le _, h0⟩, ?_⟩
  rintro i m σ H ⟨rfl, hi, p⟩
  obtain ⟨k1, k2⟩ := hl i σ H hi p
  by_cases hlt : i < min xs.length ys.length
  · have l1 : i < xs.length := by omega
    have l2 : i < ys.length := by omega
    refine .inr ⟨⟨xs, ys, _, _, k1, k2, List.getElem?_eq_getElem l1, List.getElem?_eq_getElem l2⟩, Pv (i + 1), fun σ' H' p' => ⟨min xs.length ys.length - (i + 1), by omega, rfl, hlt, p'⟩, fun v H' yy => ?_⟩
    obtain ⟨T, x, y, rfl, hT, rfl, ex⟩ := yy
    obtain ⟨ex1, ex2⟩ := ex xs ys k1 k2
    exact hs i x y σ H T hlt ex1 ex2 p hT
  · have e : i = min xs.length ys.length := by omega
    exact .inl ⟨⟨xs, ys, k1, k2, by omega⟩, hd σ H (e ▸ p)⟩
def CompZ (K : PySem.W.Frag) (k : Nat) (js : List Nat) (g : TG) (te : TE) (σ : St) (vs : List V) (H1 : Hp) (Q : VK) : Prop := ∃ a b xs ys, vs = [.ref a, .ref b] ∧ SqT K H1 a xs ∧ SqT K H1 b ys ∧ ∃ W : Nat → Nat → List V → St → Hp → Prop, (∃ m, W 0 m [] (compSt k js σ) H1) ∧ ∀ i m zs σ' H', W i m zs σ' H' →
    ((Itz K a b).stop i H' ∧ ∀ p, H' p = none → Q (.ref p) (upd H' p (.lst zs))) ∨
    ((Itz K a b).go i H' ∧ zs.length < sizeLine ∧ ∃ N : List V → St → Hp → Prop, (∀ zs σ2 H2, N zs σ2 H2 → ∃ m', m' < m ∧ W (i + 1) m' zs σ2 H2) ∧ ∀ x H2, (Itz K a b).yld i H' x H2 → g x σ' H2 fun σ3 H3 => te σ3 H3 fun v H4 => N (zs ++ [v]) σ3 H4)
theorem comp_eqZ {K : PySem.W.Frag} {k : Nat} {js : List Nat} {ta : TA} {g : TG} {te : TE} {σ : St} {H : Hp} {Q : VK} : tComp (iZip K ta) k js g te σ H Q = ta σ H fun vs H1 => CompZ K k js g te σ vs H1 Q := rfl
theorem CompZ.mk {K : PySem.W.Frag} {a b : Addr} {xs ys : List V} {k : Nat} {js : List Nat} {g : TG} {te : TE} {Q : VK} {σ : St} {H : Hp} (n : Nat) (hn : n = min xs.length ys.length) (h1 : SqT K H a xs) (h2 : SqT K H b ys) (Pv : Nat → List V → St → Hp → Prop) (h0 : Pv 0 [] (compSt k js σ) H) (hl : ∀ i zs σ H, i ≤ n → Pv i zs σ H → SqT K H a xs ∧ SqT K H b ys)
    (hs : ∀ i x y zs σ H T, i < n → xs[i]? = some x → ys[i]? = some y → Pv i zs σ H → H T = none → zs.length < sizeLine ∧ g (.ref T) σ (upd H T (.tup [x, y])) fun σ3 H3 => te σ3 H3 fun v H4 => Pv (i + 1) (zs ++ [v]) σ3 H4) (hz : ∀ zs σ H, Pv n zs σ H → ∀ p, H p = none → Q (.ref p) (upd H p (.lst zs))) (hlen : ∀ i zs σ H, Pv i zs σ H → zs.length < sizeLine) :
    CompZ K k js g te σ [.ref a, .ref b] H Q := by
  subst hn
  refine ⟨a, b, xs, ys, rfl, h1, h2, fun i m zs σ H => m = min xs.length ys.length - i ∧ i ≤ min xs.length ys.length ∧ Pv i zs σ H, ⟨_, rfl, Nat.zero_le _, h0⟩, ?_⟩
  rintro i m zs σ H ⟨rfl, hi, p⟩
  obtain ⟨k1, k2⟩ := hl i zs σ H hi p
  by_cases hlt : i < min xs.length ys.length
  · have l1 : i < xs.length := by omega
    have l2 : i < ys.length := by omega
    refine .inr ⟨⟨xs, ys, _, _, k1, k2, List.getElem?_eq_getElem l1, List.getElem?_eq_getElem l2⟩, hlen _ _ _ _ p, Pv (i + 1), fun zs' σ' H' p' => ⟨min xs.length ys.length - (i + 1), by omega, rfl, hlt, p'⟩, fun v H' yy => ?_⟩
    obtain ⟨T, x, y, rfl, hT, rfl, ex⟩ := yy
    obtain ⟨ex1, ex2⟩ := ex xs ys k1 k2
    exact (hs i x y zs σ H T hlt ex1 ex2 p hT).2
  · have e : i = min xs.length ys.length := by omega
    exact .inl ⟨⟨xs, ys, k1, k2, by omega⟩, hz zs σ H (e ▸ p)⟩
end L2
namespace L2
open PySem PySem.Spec PyProof.Rows
section
variable {X : Cx}
def Its (lo st : Int) (n : Nat) : It := ⟨fun i _ => i < n, fun i H x H' => H' = H ∧ x = .int (lo + i * st), fun i _ => n ≤ i⟩
def iRng3 (ta : TA) : TI := fun σ H R => ta σ H fun vs H1 => ∃ i j c : Int, vs = [.int i, .int j, .int c] ∧ (c ≠ 0 ∧ c.natAbs < 1073741824 ∧ Builtin.Range.small i j c = true) ∧ R (Its i c (Builtin.Range.rangeSize i j c).toNat) H1
end
def LoopS (lo st : Int) (n : Nat) (g : TG) (tb : TS) (D : Ends) (σ : St) (H1 : Hp) : Prop := ∃ W : Nat → Nat → St → Hp → Prop, (∃ m, W 0 m σ H1) ∧ ∀ i m σ H, W i m σ H →
  ((Its lo st n).stop i H ∧ D.nx σ H) ∨ ((Its lo st n).go i H ∧ ∃ N : St → Hp → Prop, (∀ σ' H', N σ' H' → ∃ m', m' < m ∧ W (i + 1) m' σ' H') ∧ ∀ x H', (Its lo st n).yld i H x H' → g x σ H' fun σ2 H2 => tb { D with nx := N, ct := N, bk := D.nx } σ2 H2)
theorem for_eqR3 {ta : TA} {g : TG} {tb : TS} {D : Ends} {σ : St} {H : Hp} : tFor (iRng3 ta) g tb D σ H = ta σ H fun vs H1 => ∃ i j c : Int, vs = [.int i, .int j, .int c] ∧ (c ≠ 0 ∧ c.natAbs < 1073741824 ∧ Builtin.Range.small i j c = true) ∧ LoopS i c (Builtin.Range.rangeSize i j c).toNat g tb D σ H1 := rfl
theorem LoopS.mk {lo st : Int} {n : Nat} {g : TG} {tb : TS} {D : Ends} {σ : St} {H : Hp} (Pv : Nat → St → Hp → Prop) (h0 : Pv 0 σ H)
    (hs : ∀ i σ H, i < n → Pv i σ H → g (.int (lo + i * st)) σ H fun σ2 H2 => tb { D with nx := Pv (i + 1), ct := Pv (i + 1), bk := D.nx } σ2 H2) (hd : ∀ σ H, Pv n σ H → D.nx σ H) : LoopS lo st n g tb D σ H := by
  refine ⟨fun i m σ H => m = n - i ∧ i ≤ n ∧ Pv i σ H, ⟨_, rfl, Nat.zero_le _, h0⟩, ?_⟩
  rintro i m σ H ⟨rfl, hi, p⟩
  by_cases hlt : i < n
  · refine .inr ⟨hlt, Pv (i + 1), fun σ' H' p' => ⟨n - (i + 1), by omega, rfl, hlt, p'⟩, fun v H' yy => ?_⟩
    obtain ⟨rfl, rfl⟩ := yy
    exact hs i σ _ hlt p
  · have e : i = n := by omega
    exact .inl ⟨(show n ≤ i by omega), hd σ H (e ▸ p)⟩
def CompS (lo st : Int) (n k : Nat) (js : List Nat) (g : TG) (te : TE) (σ : St) (H1 : Hp) (Q : VK) : Prop := ∃ W : Nat → Nat → List V → St → Hp → Prop, (∃ m, W 0 m [] (compSt k js σ) H1) ∧ ∀ i m ys σ' H', W i m ys σ' H' →
    ((Its lo st n).stop i H' ∧ ∀ p, H' p = none → Q (.ref p) (upd H' p (.lst ys))) ∨
    ((Its lo st n).go i H' ∧ ys.length < sizeLine ∧ ∃ N : List V → St → Hp → Prop, (∀ zs σ2 H2, N zs σ2 H2 → ∃ m', m' < m ∧ W (i + 1) m' zs σ2 H2) ∧ ∀ x H2, (Its lo st n).yld i H' x H2 → g x σ' H2 fun σ3 H3 => te σ3 H3 fun v H4 => N (ys ++ [v]) σ3 H4)
theorem comp_eqR3 {k : Nat} {js : List Nat} {ta : TA} {g : TG} {te : TE} {σ : St} {H : Hp} {Q : VK} : tComp (iRng3 ta) k js g te σ H Q = ta σ H fun vs H1 => ∃ i j c : Int, vs = [.int i, .int j, .int c] ∧ (c ≠ 0 ∧ c.natAbs < 1073741824 ∧ Builtin.Range.small i j c = true) ∧ CompS i c (Builtin.Range.rangeSize i j c).toNat k js g te σ H1 Q := rfl
theorem CompS.mk {lo st : Int} {n k : Nat} {js : List Nat} {g : TG} {te : TE} {Q : VK} {σ : St} {H : Hp} (Pv : Nat → List V → St → Hp → Prop) (h0 : Pv 0 [] (compSt k js σ) H) (hlen : ∀ i ys σ H, Pv i ys σ H → ys.length < sizeLine)
    (hs : ∀ i ys σ H, i < n → Pv i ys σ H → g (.int (lo + i * st)) σ H fun σ3 H3 => te σ3 H3 fun v H4 => Pv (i + 1) (ys ++ [v]) σ3 H4) (hd : ∀ ys σ H, Pv n ys σ H → ∀ p, H p = none → Q (.ref p) (upd H p (.lst ys))) : CompS lo st n k js g te σ H Q := by
  refine ⟨fun i m ys σ H => m = n - i ∧ i ≤ n ∧ Pv i ys σ H, ⟨_, rfl, Nat.zero_le _, h0⟩, ?_⟩
  rintro i m ys σ H ⟨rfl, hi, p⟩
  by_cases hlt : i < n
  · refine .inr ⟨hlt, hlen _ _ _ _ p, Pv (i + 1), fun zs σ' H' p' => ⟨n - (i + 1), by omega, rfl, hlt, p'⟩, fun v H' yy => ?_⟩
    obtain ⟨rfl, rfl⟩ := yy
    exact hs i ys σ _ hlt p
  · have e : i = n := by omega
    exact .inl ⟨(show n ≤ i by omega), hd ys σ H (e ▸ p)⟩
end L2
namespace L2
open PySem PySem.Spec PyProof.Rows
section
variable {X : Cx}
def rCatS : R2 := fun x y H Q => ∃ a b xs ys, x = .ref a ∧ y = .ref b ∧ H a = some (.tup xs) ∧ H b = some (.tup ys) ∧ xs.length + ys.length ≤ sizeLine ∧ ∀ r H', Same H H' → H' r = some (.tup (xs ++ ys)) → Q (.ref r) H'
def rSlTS : V → Option Int → Option Int → Hp → VK → Prop := fun x lo hi H Q => ∃ a xs, x = .ref a ∧ H a = some (.tup xs) ∧ ¬ (HT.sIx xs.length 0 lo = 0 ∧ HT.sIx xs.length xs.length hi = xs.length) ∧ ∀ r H', Same H H' → H' r = some (.tup (cutV xs lo hi)) → Q (.ref r) H'
theorem sl_tupS : SlR X rSlTS := by
  intro pins s σ H x v vl vu lo hi sl Q I rx hs pl pu h
  obtain ⟨a, xs, e, ha, nw, q⟩ := h
  exact sl_tup pins s σ H x v vl vu lo hi sl Q I rx hs pl pu ⟨a, xs, e, .of ha, nw, fun p hp => q p _ (same_new hp _) upd_same⟩
end
end L2
namespace L2
open PySem PySem.Spec PyProof.Rows
theorem has_of {names : List (Str × NameKind)} {cl : List (Str × Addr)} (h : names.all (fun y => match y.2 with | .cell => (cl.lookup y.1).isSome | .free => (cl.lookup y.1).isSome | _ => true) = true) :
    ∀ x, (names.lookup x = some .cell ∨ names.lookup x = some .free) → ∃ c, cl.lookup x = some c := by
  intro x hx
  have z := List.all_eq_true.mp h
  rcases hx with hx | hx
  · exact Option.isSome_iff_exists.mp (z _ (PySem.mem_of_lookup hx))
  · exact Option.isSome_iff_exists.mp (z _ (PySem.mem_of_lookup hx))
theorem cap1 {X : Cx} {scope : Scope} {cl : List (Str × Addr)} {x0 : Str} {j0 : Nat} (c0 : Cap X scope cl x0 j0) : ∀ (i : Nat) x j, [x0][i]? = some x → [j0][i]? = some j → Cap X scope cl x j
  | 0, _, _, h1, h2 => by cases h1; cases h2; exact c0
  | _ + 1, _, _, h1, _ => by cases h1
end L2
namespace L2
open PySem PySem.Spec PyProof.Rows
section
variable {prog : Program} {w : World} {A : Around} {R : Result → Shared → Prop} {s : Shared}
end
def tCompI (wi : TI) (k : Nat) (js : List Nat) (g : TG) (tc : TT) (te : TE) : TE := fun σ H Q => wi σ H fun J H1 =>
  ∃ W : Nat → Nat → List V → St → Hp → Prop, (∃ m, W 0 m [] (compSt k js σ) H1) ∧ ∀ i m ys σ' H', W i m ys σ' H' →
    (J.stop i H' ∧ ∀ p, H' p = none → Q (.ref p) (upd H' p (.lst ys))) ∨
    (J.go i H' ∧ ys.length < sizeLine ∧ ∃ N : List V → St → Hp → Prop, (∀ zs σ2 H2, N zs σ2 H2 → ∃ m', m' < m ∧ W (i + 1) m' zs σ2 H2) ∧
      ∀ x H2, J.yld i H' x H2 → g x σ' H2 fun σ3 H3 => tc σ3 H3 fun b H4 => if b = true then te σ3 H4 fun v H5 => N (ys ++ [v]) σ3 H5 else N ys σ3 H4)
end L2
namespace L2
open PySem PySem.Spec PyProof.Rows
section
variable {pg : Program} {wd : World} {B : Around} {X0 : Value → Shared → Prop} {s0 : Shared}
end
def Ite (K : PySem.W.Frag) (a : Addr) : It := ⟨fun i H => ∃ xs x, SqT K H a xs ∧ xs[i]? = some x,
  fun i H v H' => ∃ T x, v = .ref T ∧ H T = none ∧ H' = upd H T (.tup [.int i, x]) ∧ ∀ xs, SqT K H a xs → xs[i]? = some x, fun i H => ∃ xs, SqT K H a xs ∧ xs.length ≤ i⟩
section
variable {X : Cx} {es : List Expr} {x1 : Nat} {pp : Pos}
def iEnum (K : PySem.W.Frag) (te : TE) : TI := fun σ H R => te σ H fun v H1 => ∃ a xs, v = .ref a ∧ SqT K H1 a xs ∧ R (Ite K a) H1
end
def CompE (K : PySem.W.Frag) (k : Nat) (js : List Nat) (g : TG) (te : TE) (σ : St) (v : V) (H1 : Hp) (Q : VK) : Prop := ∃ a xs, v = .ref a ∧ SqT K H1 a xs ∧ ∃ W : Nat → Nat → List V → St → Hp → Prop, (∃ m, W 0 m [] (compSt k js σ) H1) ∧ ∀ i m zs σ' H', W i m zs σ' H' →
    ((Ite K a).stop i H' ∧ ∀ p, H' p = none → Q (.ref p) (upd H' p (.lst zs))) ∨
    ((Ite K a).go i H' ∧ zs.length < sizeLine ∧ ∃ N : List V → St → Hp → Prop, (∀ zs σ2 H2, N zs σ2 H2 → ∃ m', m' < m ∧ W (i + 1) m' zs σ2 H2) ∧ ∀ x H2, (Ite K a).yld i H' x H2 → g x σ' H2 fun σ3 H3 => te σ3 H3 fun v H4 => N (zs ++ [v]) σ3 H4)
theorem comp_eqE {K : PySem.W.Frag} {k : Nat} {js : List Nat} {tx : TE} {g : TG} {te : TE} {σ : St} {H : Hp} {Q : VK} : tComp (iEnum K tx) k js g te σ H Q = tx σ H fun v H1 => CompE K k js g te σ v H1 Q := rfl
theorem CompE.mk {K : PySem.W.Frag} {a : Addr} {xs : List V} {k : Nat} {js : List Nat} {g : TG} {te : TE} {Q : VK} {σ : St} {H : Hp} (h1 : SqT K H a xs) (Pv : Nat → List V → St → Hp → Prop) (h0 : Pv 0 [] (compSt k js σ) H) (hl : ∀ i zs σ H, i ≤ xs.length → Pv i zs σ H → SqT K H a xs ∧ zs.length < sizeLine)
    (hs : ∀ i x zs σ H T, xs[i]? = some x → Pv i zs σ H → H T = none → g (.ref T) σ (upd H T (.tup [.int i, x])) fun σ3 H3 => te σ3 H3 fun v H4 => Pv (i + 1) (zs ++ [v]) σ3 H4) (hz : ∀ zs σ H, Pv xs.length zs σ H → ∀ p, H p = none → Q (.ref p) (upd H p (.lst zs))) :
    CompE K k js g te σ (.ref a) H Q := by
  refine ⟨a, xs, rfl, h1, fun i m zs σ H => m = xs.length - i ∧ i ≤ xs.length ∧ Pv i zs σ H, ⟨_, rfl, Nat.zero_le _, h0⟩, ?_⟩
  rintro i m zs σ H ⟨rfl, hi, p⟩
  obtain ⟨k1, k2⟩ := hl i zs σ H hi p
  by_cases hlt : i < xs.length
  · refine .inr ⟨⟨xs, _, k1, List.getElem?_eq_getElem hlt⟩, k2, Pv (i + 1), fun zs' σ' H' p' => ⟨xs.length - (i + 1), by omega, rfl, hlt, p'⟩, fun v H' yy => ?_⟩
    obtain ⟨T, x, rfl, hT, rfl, ex⟩ := yy
    exact hs i x zs σ H T (ex xs k1) p hT
  · have e : i = xs.length := by omega
    exact .inl ⟨⟨xs, k1, by omega⟩, hz zs σ H (e ▸ p)⟩
def CompEI (K : PySem.W.Frag) (k : Nat) (js : List Nat) (g : TG) (tc : TT) (te : TE) (σ : St) (v : V) (H1 : Hp) (Q : VK) : Prop := ∃ a xs, v = .ref a ∧ SqT K H1 a xs ∧ ∃ W : Nat → Nat → List V → St → Hp → Prop, (∃ m, W 0 m [] (compSt k js σ) H1) ∧ ∀ i m zs σ' H', W i m zs σ' H' →
    ((Ite K a).stop i H' ∧ ∀ p, H' p = none → Q (.ref p) (upd H' p (.lst zs))) ∨
    ((Ite K a).go i H' ∧ zs.length < sizeLine ∧ ∃ N : List V → St → Hp → Prop, (∀ zs σ2 H2, N zs σ2 H2 → ∃ m', m' < m ∧ W (i + 1) m' zs σ2 H2) ∧ ∀ x H2, (Ite K a).yld i H' x H2 → g x σ' H2 fun σ3 H3 => tc σ3 H3 fun b H4 => if b = true then te σ3 H4 fun v H5 => N (zs ++ [v]) σ3 H5 else N zs σ3 H4)
theorem comp_eqEI {K : PySem.W.Frag} {k : Nat} {js : List Nat} {tx : TE} {g : TG} {tc : TT} {te : TE} {σ : St} {H : Hp} {Q : VK} : tCompI (iEnum K tx) k js g tc te σ H Q = tx σ H fun v H1 => CompEI K k js g tc te σ v H1 Q := rfl
theorem CompEI.mk {K : PySem.W.Frag} {a : Addr} {xs : List V} {k : Nat} {js : List Nat} {g : TG} {tc : TT} {te : TE} {Q : VK} {σ : St} {H : Hp} (h1 : SqT K H a xs) (Pv : Nat → List V → St → Hp → Prop) (h0 : Pv 0 [] (compSt k js σ) H) (hl : ∀ i zs σ H, i ≤ xs.length → Pv i zs σ H → SqT K H a xs ∧ zs.length < sizeLine)
    (hs : ∀ i x zs σ H T, xs[i]? = some x → Pv i zs σ H → H T = none → g (.ref T) σ (upd H T (.tup [.int i, x])) fun σ3 H3 => tc σ3 H3 fun b H4 => if b = true then te σ3 H4 fun v H5 => Pv (i + 1) (zs ++ [v]) σ3 H5 else Pv (i + 1) zs σ3 H4) (hz : ∀ zs σ H, Pv xs.length zs σ H → ∀ p, H p = none → Q (.ref p) (upd H p (.lst zs))) :
    CompEI K k js g tc te σ (.ref a) H Q := by
  refine ⟨a, xs, rfl, h1, fun i m zs σ H => m = xs.length - i ∧ i ≤ xs.length ∧ Pv i zs σ H, ⟨_, rfl, Nat.zero_le _, h0⟩, ?_⟩
  rintro i m zs σ H ⟨rfl, hi, p⟩
  obtain ⟨k1, k2⟩ := hl i zs σ H hi p
  by_cases hlt : i < xs.length
  · refine .inr ⟨⟨xs, _, k1, List.getElem?_eq_getElem hlt⟩, k2, Pv (i + 1), fun zs' σ' H' p' => ⟨xs.length - (i + 1), by omega, rfl, hlt, p'⟩, fun v H' yy => ?_⟩
    obtain ⟨T, x, rfl, hT, rfl, ex⟩ := yy
    exact hs i x zs σ H T (ex xs k1) p hT
  · have e : i = xs.length := by omega
    exact .inl ⟨⟨xs, k1, by omega⟩, hz zs σ H (e ▸ p)⟩
end L2
namespace L2
open PySem PySem.Spec PyProof.Rows
section
variable {X : Cx}
def rNeT (K : PySem.W.Frag) : R2 := fun x y H Q => ∃ a b xs ys, x = .ref a ∧ y = .ref b ∧ SqT K H a xs ∧ SqT K H b ys ∧ xs.all flatV = true ∧ ys.all flatV = true ∧ Q (.bl (!eqVs xs ys)) H
def rNeL (K : PySem.W.Frag) : R2 := fun x y H Q => ∃ a b xs ys, x = .ref a ∧ y = .ref b ∧ SqL K H a xs ∧ SqL K H b ys ∧ xs.all flatV = true ∧ ys.all flatV = true ∧ Q (.bl (!eqVs xs ys)) H
theorem op_neL (hu : X.A.units < cLine) : OpR X (compareOp .NotEq) (rNeL X.K) := by
  intro pins s σ H x y v u Q I rx ry h
  obtain ⟨a, b, xs, ys, rfl, rfl, ha, hb, f1, f2, q⟩ := h
  cases rx
  cases ry
  obtain ⟨us, r1, p1, _⟩ := I.list ha
  obtain ⟨ws, r2, p2, _⟩ := I.list hb
  by_cases hl : xs.length = ys.length
  · refine SeqAt.RcNeAt.lists p1.isList p2.isList (e := eqAtI xs ys) (by simp [← r1.length, ← r2.length, hl]) hu (eqAtI_ok r1 r2 f1 f2) _ _ _ _ ?_
    have e : us.toArray.size = xs.length := by simp [r1.length]
    rw [e, eqVs_all hl]
    exact ⟨.bl _, H, I, rfl, q⟩
  · refine SeqAt.RcNeAt.lists_lengths p1.isList p2.isList (by simp [← r1.length, ← r2.length, hl]) hu _ _ _ _ ?_
    rw [eqVs_len hl] at q
    exact ⟨.bl _, H, I, rfl, q⟩
end
theorem cl_sub1 {cells : List (Str × Addr)} {y : Str} {a : Addr} (h : cells.lookup y = some a) : ∀ x c, [(y, a)].lookup x = some c → cells.lookup x = some c := fun x c e => by
  cases List.mem_singleton.mp (PySem.mem_of_lookup e); exact h
theorem cl_sub2 {cells : List (Str × Addr)} {y z : Str} {a b : Addr} (h : cells.lookup y = some a) (h2 : cells.lookup z = some b) : ∀ x c, [(y, a), (z, b)].lookup x = some c → cells.lookup x = some c := fun x c e => by
  rcases List.mem_cons.mp (PySem.mem_of_lookup e) with q | q
  · cases q; exact h
  · cases List.mem_singleton.mp q; exact h2
end L2
namespace HT
open PySem PySem.Spec PyProof.Rows L2
theorem whole_tup {prog : Program} {w : World} {A : Around} {E : Value → Shared → Prop} {s : Shared} {t sl : Addr} {its : Array Value} {vl vu : Value} {lo hi : Option Int} {R : Value → Shared → Prop} (ht : IsTup s.heap t its) (hs : s.heap.IsSliceOf sl vl vu .none) (pl : IsPart vl lo) (pu : IsPart vu hi)
    (h0 : sIx its.size 0 lo = 0) (h1 : sIx its.size its.size hi = its.size) (h : R (.ref t) s) : wpAny (model prog w) A (getItem (.ref t) (.ref sl)) R E s := by
  obtain ⟨os, hos, hcs, hds⟩ := id hs
  have hTs : s.TypeIs (.ref sl) "slice" := ⟨os, hos, hcs⟩
  unfold getItem
  try with_reducible refine wpAny_holding ?_
  first | refine wpAny_bind (wpAny_pure ?_) | skip
  refine wpAny_bind (wpAny_sequenceKey ht.typeIs (by decide) ?_)
  refine wpAny_bind (wpAny_callSpecial?_slot (name := Str.ofString "__getitem__") ht.typeIs PyProof.Rows.slot_tuple_getitem (wpAny_call_entry PyProof.Rows.slot_tuple_getitem ht.typeIs entry_tuple_getitem ?_ (args_tuple_getitem _ _)))
  show wpAny _ _ (Builtin.Tuple.tupleItemsOf (.ref t) >>= _) _ _ s
  refine wpAny_bind (tupleItemsOf_ ht ?_)
  refine wpAny_bind (wpAny_typeOf hTs ?_)
  rw [if_pos (by decide)]
  refine wpAny_bind (sliceApplied_gen hs pl pu ?_)
  show wpAny _ _ (if (((sIx its.size 0 lo : Nat) : Int) == 0 && (1 : Int) == 1 && (sIx its.size its.size hi - sIx its.size 0 lo) == its.size) = true then _ else _) _ _ s
  rw [if_pos (by rw [h0, h1]; simp)]
  unfold Builtin.Tuple.tupleIsExact
  exact wpAny_bind (wpAny_bind (wpAny_typeOf ht.typeIs (wpAny_pure (wpAny_bind (wpAny_rule (wpAny_pure ⟨_, rfl, wpAny_pure h⟩))))))
end HT
namespace L2
open PySem PySem.Spec PyProof.Rows
section
variable {X : Cx}
def rSlTA : V → Option Int → Option Int → Hp → VK → Prop := fun x lo hi H Q => ∃ a xs, x = .ref a ∧ H a = some (.tup xs) ∧ ∀ r H', Same H H' → H' r = some (.tup (cutV xs lo hi)) → Q (.ref r) H'
theorem sl_tupA : SlR X rSlTA := by
  intro pins s σ H x v vl vu lo hi sl Q I rx hs pl pu h
  obtain ⟨a, xs, rfl, ha, q⟩ := h
  by_cases c : HT.sIx xs.length 0 lo = 0 ∧ HT.sIx xs.length xs.length hi = xs.length
  · cases rx
    obtain ⟨its, r, ht, hz⟩ := I.tuple (show SqT X.K H a xs from .of ha)
    have hlen : its.toArray.size = xs.length := by rw [List.size_toArray]; exact r.length.symm
    refine ⟨"tuple", _, PyProof.Rows.slot_tuple_getitem.lookup, ht.typeIs, HT.whole_tup ht hs pl pu (by rw [hlen]; exact c.1) (by rw [hlen]; exact c.2) ⟨.ref a, H, I, rfl, q a H (Same.refl _) ?_⟩⟩
    unfold cutV
    rw [c.1, c.2, List.drop_zero, Nat.sub_zero, List.take_length]
    exact ha
  · exact sl_tupS pins s σ H _ v vl vu lo hi sl Q I rx hs pl pu ⟨a, xs, rfl, ha, c, q⟩
end
end L2
namespace L2
open PySem PySem.Spec PyProof.Rows
section
variable {X : Cx}
def tPop (to : TE) : TE := fun σ H Q => to σ H fun x H1 => ∃ l xs y, x = .ref l ∧ H1 l = some (.lst xs) ∧ xs[xs.length - 1]? = some y ∧ Q y (upd H1 l (.lst xs.dropLast))
theorem pe_pop {o : Expr} {to : TE} {apos cpos : Pos} (ho : PE X o to) (hbase : attributeBase o "pop" X.env (eval o X.env) = eval o X.env := by rfl) (hline : (apos.endLine == cpos.line) = true := by rfl) : PE X (.Call (.Attribute o "pop" apos) [] [] cpos) (tPop to) := by
  intro pins s σ H Q I h
  refine wpAny_Call_method0_late hbase hline (thn (ho pins s σ H _ I h) fun v s1 ⟨x, H1, I1, r1, q1⟩ => ?_)
  obtain ⟨l, xs, y, rfl, hx, hy, q⟩ := q1
  obtain ⟨h1, h2⟩ := tyV_is (T := "list") I1 r1 (.inl ⟨rfl, _, .of hx⟩)
  exact ⟨"list", "list.pop", PySem.F.plainAttrs_list, PySem.F.slot_list_pop, PySem.F.type_list_pop, h1, h2, Calls.callWith_builtin rfl (PySem.evalArgs_none (mt_pop pins s1 σ H1 _ [] v [] Q I1 r1 .nil ⟨l, xs, y, rfl, rfl, hx, hy, q⟩))⟩
end
end L2
namespace L2
open PySem PySem.Spec PyProof.Rows
def okS (k : Nat) (x : Str) : Prop := x.length ≤ k ∧ ∀ c ∈ x.cps.toList, c < 1000
theorem okS.mono {k m : Nat} {x : Str} (h : okS k x) (l : k ≤ m) : okS m x := ⟨Nat.le_trans h.1 l, h.2⟩
theorem okS.app {k m : Nat} {x y : Str} (h : okS k x) (g : okS m y) : okS (k + m) (x ++ y) := by
  refine ⟨by rw [strLen_append]; exact Nat.add_le_add h.1 g.1, fun c hc => ?_⟩
  have e : (x ++ y).cps.toList = x.cps.toList ++ y.cps.toList := by show (x.cps ++ y.cps).toList = _; simp
  rw [e] at hc
  exact (List.mem_append.mp hc).elim (h.2 c) (g.2 c)
section
variable {X : Cx}
def tFR (t1 t2 : TE) : TE := fun σ H Q => t1 σ H fun x H1 => ∃ a, x = .str a ∧ okS 1000 a ∧ t2 σ H1 fun y H2 => ∃ b, y = .str b ∧ okS 1000 b ∧ ∀ z, Q (.str z) H2
def rSlStr : V → Option Int → Option Int → Hp → VK → Prop := fun x lo hi H Q => ∃ z, x = .str z ∧ z.length ≤ 1000 ∧ ∀ y : Str, y.length ≤ z.length → (∀ c ∈ y.cps.toList, c ∈ z.cps.toList) → Q (.str y) H
def rUpper : V → List V → Hp → VK → Prop := fun x xs H Q => ∃ z, x = .str z ∧ xs = [] ∧ okS 1000 ⟨placed z fun _ c => Unicode.upperOf c⟩ ∧ Q (.str ⟨placed z fun _ c => Unicode.upperOf c⟩) H
def rJoin (K : PySem.W.Frag) : V → List V → Hp → VK → Prop := fun x xs H Q => ∃ (z : Str) (l : Addr) (ys : List Str), x = .str z ∧ z.length = 0 ∧ xs = [.ref l] ∧ SqL K H l (ys.map V.str) ∧ ys.length ≤ 100 ∧ (∀ y ∈ ys, okS 10 y) ∧ ∀ y : Str, okS 1000 y → Q (.str y) H
end
end L2
namespace L2
open PySem PySem.Spec PyProof.Rows
def Itel (K : PySem.W.Frag) (a : Addr) : It := ⟨fun i H => ∃ xs x, SqL K H a xs ∧ xs[i]? = some x,
  fun i H v H' => ∃ T x, v = .ref T ∧ H T = none ∧ H' = upd H T (.tup [.int i, x]) ∧ ∀ xs, SqL K H a xs → xs[i]? = some x, fun i H => ∃ xs, SqL K H a xs ∧ xs.length ≤ i⟩
section
variable {X : Cx} {es : List Expr} {x1 : Nat} {pp : Pos}
def iEnumL (K : PySem.W.Frag) (te : TE) : TI := fun σ H R => te σ H fun v H1 => ∃ a xs, v = .ref a ∧ SqL K H1 a xs ∧ R (Itel K a) H1
end
def LoopEL (K : PySem.W.Frag) (g : TG) (tb : TS) (D : Ends) (σ : St) (v : V) (H1 : Hp) : Prop := ∃ a xs, v = .ref a ∧ SqL K H1 a xs ∧ ∃ W : Nat → Nat → St → Hp → Prop, (∃ m, W 0 m σ H1) ∧ ∀ i m σ H, W i m σ H →
  ((Itel K a).stop i H ∧ D.nx σ H) ∨ ((Itel K a).go i H ∧ ∃ N : St → Hp → Prop, (∀ σ' H', N σ' H' → ∃ m', m' < m ∧ W (i + 1) m' σ' H') ∧ ∀ x H', (Itel K a).yld i H x H' → g x σ H' fun σ2 H2 => tb { D with nx := N, ct := N, bk := D.nx } σ2 H2)
theorem for_eqEL {K : PySem.W.Frag} {te : TE} {g : TG} {tb : TS} {D : Ends} {σ : St} {H : Hp} : tFor (iEnumL K te) g tb D σ H = te σ H fun v H1 => LoopEL K g tb D σ v H1 := rfl
theorem LoopEL.mk {K : PySem.W.Frag} {a : Addr} {xs : List V} {g : TG} {tb : TS} {D : Ends} {σ : St} {H : Hp} (h1 : SqL K H a xs) (Pv : Nat → St → Hp → Prop) (h0 : Pv 0 σ H) (hl : ∀ i σ H, i ≤ xs.length → Pv i σ H → SqL K H a xs)
    (hs : ∀ i x σ H T, xs[i]? = some x → Pv i σ H → H T = none → g (.ref T) σ (upd H T (.tup [.int i, x])) fun σ2 H2 => tb { D with nx := Pv (i + 1), ct := Pv (i + 1), bk := D.nx } σ2 H2) (hd : ∀ σ H, Pv xs.length σ H → D.nx σ H) :
    LoopEL K g tb D σ (.ref a) H := by
  refine ⟨a, xs, rfl, h1, fun i m σ H => m = xs.length - i ∧ i ≤ xs.length ∧ Pv i σ H, ⟨_, rfl, Nat.zero_le _, h0⟩, ?_⟩
  rintro i m σ H ⟨rfl, hi, p⟩
  have k1 := hl i σ H hi p
  by_cases hlt : i < xs.length
  · refine .inr ⟨⟨xs, _, k1, List.getElem?_eq_getElem hlt⟩, Pv (i + 1), fun σ' H' p' => ⟨xs.length - (i + 1), by omega, rfl, hlt, p'⟩, fun v H' yy => ?_⟩
    obtain ⟨T, x, rfl, hT, rfl, ex⟩ := yy
    exact hs i x σ H T (ex xs k1) p hT
  · have e : i = xs.length := by omega
    exact .inl ⟨⟨xs, k1, by omega⟩, hd σ H (e ▸ p)⟩
end L2
namespace L2
open PySem PySem.Spec PyProof.Rows
def Itx (x : Str) : It := ⟨fun i _ => i < x.cps.size, fun i H v H' => H' = H ∧ ∃ c, x.cps[i]? = some c ∧ v = .str ⟨#[c]⟩, fun i _ => x.cps.size ≤ i⟩
section
variable {X : Cx} {tg : Expr}
def iStr (tl : TE) : TI := fun σ H R => tl σ H fun x H1 => ∃ z, x = .str z ∧ R (Itx z) H1
end
def LoopX (g : TG) (tb : TS) (D : Ends) (σ : St) (v : V) (H1 : Hp) : Prop := ∃ z, v = .str z ∧ ∃ W : Nat → Nat → St → Hp → Prop, (∃ m, W 0 m σ H1) ∧ ∀ i m σ H, W i m σ H →
  ((Itx z).stop i H ∧ D.nx σ H) ∨ ((Itx z).go i H ∧ ∃ N : St → Hp → Prop, (∀ σ' H', N σ' H' → ∃ m', m' < m ∧ W (i + 1) m' σ' H') ∧ ∀ x H', (Itx z).yld i H x H' → g x σ H' fun σ2 H2 => tb { D with nx := N, ct := N, bk := D.nx } σ2 H2)
theorem for_eqX {te : TE} {g : TG} {tb : TS} {D : Ends} {σ : St} {H : Hp} : tFor (iStr te) g tb D σ H = te σ H fun v H1 => LoopX g tb D σ v H1 := rfl
theorem LoopX.mk {z : Str} {g : TG} {tb : TS} {D : Ends} {σ : St} {H : Hp} (Pv : Nat → St → Hp → Prop) (h0 : Pv 0 σ H)
    (hs : ∀ i c σ H, z.cps[i]? = some c → Pv i σ H → g (.str ⟨#[c]⟩) σ H fun σ2 H2 => tb { D with nx := Pv (i + 1), ct := Pv (i + 1), bk := D.nx } σ2 H2) (hd : ∀ σ H, Pv z.cps.size σ H → D.nx σ H) :
    LoopX g tb D σ (.str z) H := by
  refine ⟨z, rfl, fun i m σ H => m = z.cps.size - i ∧ i ≤ z.cps.size ∧ Pv i σ H, ⟨_, rfl, Nat.zero_le _, h0⟩, ?_⟩
  rintro i m σ H ⟨rfl, hi, p⟩
  by_cases hlt : i < z.cps.size
  · refine .inr ⟨hlt, Pv (i + 1), fun σ' H' p' => ⟨z.cps.size - (i + 1), by omega, rfl, hlt, p'⟩, fun v H' yy => ?_⟩
    obtain ⟨rfl, c, ec, rfl⟩ := yy
    exact hs i c σ H' ec p
  · have e : i = z.cps.size := by omega
    exact .inl ⟨by show z.cps.size ≤ i; omega, hd σ H (e ▸ p)⟩
def CompX (k : Nat) (js : List Nat) (g : TG) (te : TE) (σ : St) (v : V) (H1 : Hp) (Q : VK) : Prop := ∃ z, v = .str z ∧ ∃ W : Nat → Nat → List V → St → Hp → Prop, (∃ m, W 0 m [] (compSt k js σ) H1) ∧ ∀ i m ys σ' H', W i m ys σ' H' →
    ((Itx z).stop i H' ∧ ∀ p, H' p = none → Q (.ref p) (upd H' p (.lst ys))) ∨
    ((Itx z).go i H' ∧ ys.length < sizeLine ∧ ∃ N : List V → St → Hp → Prop, (∀ zs σ2 H2, N zs σ2 H2 → ∃ m', m' < m ∧ W (i + 1) m' zs σ2 H2) ∧ ∀ x H2, (Itx z).yld i H' x H2 → g x σ' H2 fun σ3 H3 => te σ3 H3 fun v H4 => N (ys ++ [v]) σ3 H4)
theorem comp_eqX {k : Nat} {js : List Nat} {ti : TE} {g : TG} {te : TE} {σ : St} {H : Hp} {Q : VK} : tComp (iStr ti) k js g te σ H Q = ti σ H fun x H1 => CompX k js g te σ x H1 Q := rfl
theorem CompX.mk {z : Str} {k : Nat} {js : List Nat} {g : TG} {te : TE} {Q : VK} {σ : St} {H : Hp} (Pv : Nat → List V → St → Hp → Prop) (h0 : Pv 0 [] (compSt k js σ) H)
    (hs : ∀ i c ys σ H, z.cps[i]? = some c → Pv i ys σ H → ys.length < sizeLine ∧ g (.str ⟨#[c]⟩) σ H fun σ3 H3 => te σ3 H3 fun v H4 => Pv (i + 1) (ys ++ [v]) σ3 H4) (hd : ∀ ys σ H, Pv z.cps.size ys σ H → ∀ p, H p = none → Q (.ref p) (upd H p (.lst ys))) :
    CompX k js g te σ (.str z) H Q := by
  refine ⟨z, rfl, fun i m ys σ H => m = z.cps.size - i ∧ i ≤ z.cps.size ∧ Pv i ys σ H, ⟨_, rfl, Nat.zero_le _, h0⟩, ?_⟩
  rintro i m ys σ H ⟨rfl, hi, p⟩
  by_cases hlt : i < z.cps.size
  · refine .inr ⟨hlt, (hs i (z.cps[i]'hlt) ys σ H (Array.getElem?_eq_getElem hlt) p).1, Pv (i + 1), fun zs σ' H' p' => ⟨z.cps.size - (i + 1), by omega, rfl, hlt, p'⟩, fun v H' yy => ?_⟩
    obtain ⟨rfl, c, ec, rfl⟩ := yy
    exact (hs i c ys σ H' ec p).2
  · have e : i = z.cps.size := by omega
    exact .inl ⟨by show z.cps.size ≤ i; omega, hd ys σ H (e ▸ p)⟩
section
variable {X : Cx}
def findI (x y : Str) : Int := match Builtin.Str.occurrences x y 0 x.length 1 with | i :: _ => (i : Int) | [] => -1
def rFind : V → List V → Hp → VK → Prop := fun x xs H Q => ∃ z y, x = .str z ∧ xs = [.str y] ∧ Q (.int (findI z y)) H
end
end L2
namespace L2
open PySem PySem.Spec PyProof.Rows
section
variable {X : Cx}
def rCatL (K : PySem.W.Frag) : R2 := fun x y H Q => ∃ l b xs zs, x = .ref l ∧ y = .ref b ∧ SqL K H l xs ∧ SqL K H b zs ∧ xs.length + zs.length ≤ sizeLine ∧ ∀ p, H p = none → Q (.ref p) (upd H p (.lst (xs ++ zs)))
end
end L2
namespace L2
open PySem PySem.Spec PyProof.Rows
section
variable {pg : Program} {wd : World} {B : Around} {X0 : Value → Shared → Prop} {s0 : Shared}
end
def ItzL (K : PySem.W.Frag) (a b : Addr) : It := ⟨fun i H => ∃ xs ys x y, SqL K H a xs ∧ SqL K H b ys ∧ xs[i]? = some x ∧ ys[i]? = some y,
  fun i H v H' => ∃ T x y, v = .ref T ∧ H T = none ∧ H' = upd H T (.tup [x, y]) ∧ ∀ xs ys, SqL K H a xs → SqL K H b ys → xs[i]? = some x ∧ ys[i]? = some y, fun i H => ∃ xs ys, SqL K H a xs ∧ SqL K H b ys ∧ (xs.length ≤ i ∨ ys.length ≤ i)⟩
section
variable {X : Cx} {es : List Expr} {x1 : Nat} {pp : Pos}
def iZipL (K : PySem.W.Frag) (ta : TA) : TI := fun σ H R => ta σ H fun vs H1 => ∃ a b xs ys, vs = [.ref a, .ref b] ∧ SqL K H1 a xs ∧ SqL K H1 b ys ∧ R (ItzL K a b) H1
end
def LoopZL (K : PySem.W.Frag) (g : TG) (tb : TS) (D : Ends) (σ : St) (vs : List V) (H1 : Hp) : Prop := ∃ a b xs ys, vs = [.ref a, .ref b] ∧ SqL K H1 a xs ∧ SqL K H1 b ys ∧ ∃ W : Nat → Nat → St → Hp → Prop, (∃ m, W 0 m σ H1) ∧ ∀ i m σ H, W i m σ H →
  ((ItzL K a b).stop i H ∧ D.nx σ H) ∨ ((ItzL K a b).go i H ∧ ∃ N : St → Hp → Prop, (∀ σ' H', N σ' H' → ∃ m', m' < m ∧ W (i + 1) m' σ' H') ∧ ∀ x H', (ItzL K a b).yld i H x H' → g x σ H' fun σ2 H2 => tb { D with nx := N, ct := N, bk := D.nx } σ2 H2)
theorem for_eqZL {K : PySem.W.Frag} {ta : TA} {g : TG} {tb : TS} {D : Ends} {σ : St} {H : Hp} : tFor (iZipL K ta) g tb D σ H = ta σ H fun vs H1 => LoopZL K g tb D σ vs H1 := rfl
theorem LoopZL.mk {K : PySem.W.Frag} {a b : Addr} {xs ys : List V} {g : TG} {tb : TS} {D : Ends} {σ : St} {H : Hp} (n : Nat) (hn : n = min xs.length ys.length) (h1 : SqL K H a xs) (h2 : SqL K H b ys) (Pv : Nat → St → Hp → Prop) (h0 : Pv 0 σ H) (hl : ∀ i σ H, i ≤ n → Pv i σ H → SqL K H a xs ∧ SqL K H b ys)
    (hs : ∀ i x y σ H T, i < n → xs[i]? = some x → ys[i]? = some y → Pv i σ H → H T = none → g (.ref T) σ (upd H T (.tup [x, y])) fun σ2 H2 => tb { D with nx := Pv (i + 1), ct := Pv (i + 1), bk := D.nx } σ2 H2) (hd : ∀ σ H, Pv n σ H → D.nx σ H) :
    LoopZL K g tb D σ [.ref a, .ref b] H := by
  subst hn
  refine ⟨a, b, xs, ys, rfl, h1, h2, fun i m σ H => m = min xs.length ys.length - i ∧ i ≤ min xs.length ys.length ∧ Pv i σ H, ⟨_, rfl, Nat.zero_le _, h0⟩, ?_⟩
  rintro i m σ H ⟨rfl, hi, p⟩
  obtain ⟨k1, k2⟩ := hl i σ H hi p
  by_cases hlt : i < min xs.length ys.length
  · have l1 : i < xs.length := by omega
    have l2 : i < ys.length := by omega
    refine .inr ⟨⟨xs, ys, _, _, k1, k2, List.getElem?_eq_getElem l1, List.getElem?_eq_getElem l2⟩, Pv (i + 1), fun σ' H' p' => ⟨min xs.length ys.length - (i + 1), by omega, rfl, hlt, p'⟩, fun v H' yy => ?_⟩
    obtain ⟨T, x, y, rfl, hT, rfl, ex⟩ := yy
    obtain ⟨ex1, ex2⟩ := ex xs ys k1 k2
    exact hs i x y σ H T hlt ex1 ex2 p hT
  · have e : i = min xs.length ys.length := by omega
    exact .inl ⟨⟨xs, ys, k1, k2, by omega⟩, hd σ H (e ▸ p)⟩
def CompZL (K : PySem.W.Frag) (k : Nat) (js : List Nat) (g : TG) (te : TE) (σ : St) (vs : List V) (H1 : Hp) (Q : VK) : Prop := ∃ a b xs ys, vs = [.ref a, .ref b] ∧ SqL K H1 a xs ∧ SqL K H1 b ys ∧ ∃ W : Nat → Nat → List V → St → Hp → Prop, (∃ m, W 0 m [] (compSt k js σ) H1) ∧ ∀ i m zs σ' H', W i m zs σ' H' →
    ((ItzL K a b).stop i H' ∧ ∀ p, H' p = none → Q (.ref p) (upd H' p (.lst zs))) ∨
    ((ItzL K a b).go i H' ∧ zs.length < sizeLine ∧ ∃ N : List V → St → Hp → Prop, (∀ zs σ2 H2, N zs σ2 H2 → ∃ m', m' < m ∧ W (i + 1) m' zs σ2 H2) ∧ ∀ x H2, (ItzL K a b).yld i H' x H2 → g x σ' H2 fun σ3 H3 => te σ3 H3 fun v H4 => N (zs ++ [v]) σ3 H4)
theorem comp_eqZL {K : PySem.W.Frag} {k : Nat} {js : List Nat} {ta : TA} {g : TG} {te : TE} {σ : St} {H : Hp} {Q : VK} : tComp (iZipL K ta) k js g te σ H Q = ta σ H fun vs H1 => CompZL K k js g te σ vs H1 Q := rfl
theorem CompZL.mk {K : PySem.W.Frag} {a b : Addr} {xs ys : List V} {k : Nat} {js : List Nat} {g : TG} {te : TE} {Q : VK} {σ : St} {H : Hp} (n : Nat) (hn : n = min xs.length ys.length) (h1 : SqL K H a xs) (h2 : SqL K H b ys) (Pv : Nat → List V → St → Hp → Prop) (h0 : Pv 0 [] (compSt k js σ) H) (hl : ∀ i zs σ H, i ≤ n → Pv i zs σ H → SqL K H a xs ∧ SqL K H b ys)
    (hs : ∀ i x y zs σ H T, i < n → xs[i]? = some x → ys[i]? = some y → Pv i zs σ H → H T = none → zs.length < sizeLine ∧ g (.ref T) σ (upd H T (.tup [x, y])) fun σ3 H3 => te σ3 H3 fun v H4 => Pv (i + 1) (zs ++ [v]) σ3 H4) (hz : ∀ zs σ H, Pv n zs σ H → ∀ p, H p = none → Q (.ref p) (upd H p (.lst zs))) (hlen : ∀ i zs σ H, Pv i zs σ H → zs.length < sizeLine) :
    CompZL K k js g te σ [.ref a, .ref b] H Q := by
  subst hn
  refine ⟨a, b, xs, ys, rfl, h1, h2, fun i m zs σ H => m = min xs.length ys.length - i ∧ i ≤ min xs.length ys.length ∧ Pv i zs σ H, ⟨_, rfl, Nat.zero_le _, h0⟩, ?_⟩
  rintro i m zs σ H ⟨rfl, hi, p⟩
  obtain ⟨k1, k2⟩ := hl i zs σ H hi p
  by_cases hlt : i < min xs.length ys.length
  · have l1 : i < xs.length := by omega
    have l2 : i < ys.length := by omega
    refine .inr ⟨⟨xs, ys, _, _, k1, k2, List.getElem?_eq_getElem l1, List.getElem?_eq_getElem l2⟩, hlen _ _ _ _ p, Pv (i + 1), fun zs' σ' H' p' => ⟨min xs.length ys.length - (i + 1), by omega, rfl, hlt, p'⟩, fun v H' yy => ?_⟩
    obtain ⟨T, x, y, rfl, hT, rfl, ex⟩ := yy
    obtain ⟨ex1, ex2⟩ := ex xs ys k1 k2
    exact (hs i x y zs σ H T hlt ex1 ex2 p hT).2
  · have e : i = min xs.length ys.length := by omega
    exact .inl ⟨⟨xs, ys, k1, k2, by omega⟩, hz zs σ H (e ▸ p)⟩
end L2
namespace L2
open PySem PySem.Spec PyProof.Rows
section
variable {prog : Program} {w : World} {A : Around} {E : Value → Shared → Prop} {s : Shared}
end
theorem vals_of_get : ∀ {xs : List V} {us : List Value}, xs.length = us.length → (∀ (i : Nat) u, us[i]? = some u → ∃ x, xs[i]? = some x ∧ RelV x u) → Vals xs us
  | [], [], _, _ => .nil
  | [], _ :: _, h, _ => by simp at h
  | _ :: _, [], h, _ => by simp at h
  | x :: xs, u :: us, h, f => by
    obtain ⟨y, e, r⟩ := f 0 u rfl
    cases (Option.some.inj e)
    exact .cons r (vals_of_get (by simpa using h) fun i v e => f (i + 1) v e)
section
variable {X : Cx}
def rCount : V → List V → Hp → VK → Prop := fun x ys H Q => ∃ a o xs y, x = .ref a ∧ ys = [y] ∧ H a = some (.frz o (.tup xs)) ∧ xs.all flatV = true ∧ flatV y = true ∧ Q (.int (xs.countP fun z => eqV z y)) H
def tBMf (r : V → List V → Hp → VK → Prop) (to : TE) (t : TA) : TE := fun σ H Q => to σ H fun x H1 => (∃ a o xs, x = .ref a ∧ H1 a = some (.frz o (.tup xs)) ∧ o.dict = none) ∧ t σ H1 fun ys H2 => r x ys H2 Q
end
end L2
namespace L2
open PySem PySem.Spec PyProof.Rows
section
variable {X : Cx}
def startsB (x y : Str) : Bool := decide (0 + y.length ≤ x.length) && Builtin.Str.subAt x y 0
def rStarts : V → List V → Hp → VK → Prop := fun x xs H Q => ∃ z y, x = .str z ∧ xs = [.str y] ∧ Q (.bl (startsB z y)) H
def rSlStrX : V → Option Int → Option Int → Hp → VK → Prop := fun x lo hi H Q => ∃ z, x = .str z ∧ z.length ≤ 20000 ∧ Q (.str (Txt.slice z lo hi)) H
end
end L2
namespace L2
open PySem PySem.Spec PyProof.Rows
section
variable {κ : Type} [DecidableEq κ]
def valV (kvs : List (κ × V)) (k : κ) : Option V := (kvs.find? fun kv => decide (kv.1 = k)).map (·.2)
def putK (kvs : List (κ × V)) (k : κ) (v : V) : List (κ × V) :=
  if (kvs.any fun kv => decide (kv.1 = k)) = true then kvs.map (fun kv => if kv.1 = k then (kv.1, v) else kv) else kvs ++ [(k, v)]
def dropK (kvs : List (κ × V)) (k : κ) : List (κ × V) := kvs.filter fun kv => decide (kv.1 ≠ k)
theorem valV_pos {p : κ × V} {r : List (κ × V)} {k : κ} (e : p.1 = k) : valV (p :: r) k = some p.2 := by simp [valV, List.find?_cons, e]
theorem valV_neg {p : κ × V} {r : List (κ × V)} {k : κ} (e : ¬ p.1 = k) : valV (p :: r) k = valV r k := by simp [valV, List.find?_cons, e]
theorem valV_any (k : κ) : ∀ kvs : List (κ × V), (kvs.any fun kv => decide (kv.1 = k)) = (valV kvs k).isSome
  | [] => rfl
  | p :: r => by
    rw [List.any_cons]
    by_cases e : p.1 = k
    · simp only [valV_pos e, decide_eq_true e, Bool.true_or, Option.isSome_some]
    · rw [valV_neg e, decide_eq_false e, Bool.false_or]; exact valV_any k r
theorem length_putK (kvs : List (κ × V)) (k : κ) (v : V) : (putK kvs k v).length ≤ kvs.length + 1 := by
  unfold putK
  split
  · rw [List.length_map]; omega
  · rw [List.length_append, List.length_cons, List.length_nil]; omega
theorem RelO.isSome_eq {o : Option V} {u : Option Value} (r : RelO o u) : o.isSome = u.isSome := by
  cases o with
  | none => cases u with
    | none => rfl
    | some _ => exact (show False from r).elim
  | some _ => cases u with
    | none => exact (show False from r).elim
    | some _ => rfl
theorem RelO.getD {o : Option V} {u : Option Value} {d : V} {d' : Value} (r : RelO o u) (rd : RelV d d') : RelV (o.getD d) (u.getD d') := by
  cases o with
  | none => cases u with
    | none => exact rd
    | some _ => exact (show False from r).elim
  | some _ => cases u with
    | none => exact (show False from r).elim
    | some _ => exact r
theorem KV.val {kvs : List (κ × V)} {vs : List (κ × Value)} (r : KV kvs vs) (k : κ) : RelO (valV kvs k) (valueAt vs k) := by
  unfold KV at r
  induction r with
  | nil => exact True.intro
  | @cons p q ps qs h t ih =>
    obtain ⟨h1, h2⟩ := h
    by_cases e : p.1 = k
    · have e' : q.1 = k := h1.symm.trans e
      have b : valueAt (q :: qs) k = some q.2 := by simp [valueAt, List.find?_cons, e']
      rw [valV_pos e, b]; exact h2
    · have e' : ¬ q.1 = k := fun z => e (h1.trans z)
      have b : valueAt (q :: qs) k = valueAt qs k := by simp [valueAt, List.find?_cons, e']
      rw [valV_neg e, b]; exact ih
theorem KV.any {kvs : List (κ × V)} {vs : List (κ × Value)} (r : KV kvs vs) (k : κ) : (kvs.any fun kv => decide (kv.1 = k)) = vs.any fun kv => decide (kv.1 = k) := by
  unfold KV at r
  induction r with
  | nil => rfl
  | cons h t ih => rw [List.any_cons, List.any_cons, ih, h.1]
theorem KV.repl {kvs : List (κ × V)} {vs : List (κ × Value)} (r : KV kvs vs) (k : κ) {y : V} {u : Value} (ry : RelV y u) :
    KV (kvs.map fun kv => if kv.1 = k then (kv.1, y) else kv) (vs.map fun kv => if kv.1 = k then (kv.1, u) else kv) := by
  unfold KV at r ⊢
  induction r with
  | nil => exact .nil
  | @cons p q ps qs h t ih =>
    rw [List.map_cons, List.map_cons]
    refine .cons ?_ ih
    obtain ⟨h1, h2⟩ := h
    by_cases e : p.1 = k
    · rw [if_pos e, if_pos (h1.symm.trans e)]; exact ⟨h1, ry⟩
    · rw [if_neg e, if_neg (fun z => e (h1.trans z))]; exact ⟨h1, h2⟩
theorem KV.put {kvs : List (κ × V)} {vs : List (κ × Value)} (r : KV kvs vs) (k : κ) {y : V} {u : Value} (ry : RelV y u) : KV (putK kvs k y) (stored vs k u) := by
  unfold putK stored
  rw [r.any k]
  by_cases e : (vs.any fun kv => decide (kv.1 = k)) = true
  · rw [if_pos e, if_pos e]; exact r.repl k ry
  · rw [if_neg e, if_neg e]; exact Paired.snoc r ⟨rfl, ry⟩
theorem KV.drop {kvs : List (κ × V)} {vs : List (κ × Value)} (r : KV kvs vs) (k : κ) : KV (dropK kvs k) (without vs k) := by
  unfold KV at r ⊢
  unfold dropK without
  induction r with
  | nil => exact .nil
  | @cons p q ps qs h t ih =>
    obtain ⟨h1, h2⟩ := h
    rw [List.filter_cons, List.filter_cons]
    by_cases e : p.1 = k
    · have a : ¬ decide (p.1 ≠ k) = true := by simp [e]
      have b : ¬ decide (q.1 ≠ k) = true := by simp [h1.symm.trans e]
      rw [if_neg a, if_neg b]; exact ih
    · have e' : ¬ q.1 = k := fun z => e (h1.trans z)
      have a : decide (p.1 ≠ k) = true := by simp [e]
      have b : decide (q.1 ≠ k) = true := by simp [e']
      rw [if_pos a, if_pos b]; exact .cons ⟨h1, h2⟩ ih
theorem KV.keys {kvs : List (κ × V)} {vs : List (κ × Value)} (r : KV kvs vs) : kvs.map (·.1) = vs.map (·.1) := by
  unfold KV at r
  induction r with
  | nil => rfl
  | cons h t ih => rw [List.map_cons, List.map_cons, ih, h.1]
theorem KV.length {kvs : List (κ × V)} {vs : List (κ × Value)} (r : KV kvs vs) : kvs.length = vs.length := Paired.length r
end
theorem kV_is {P : Program} {w : World} {k : Key} {u : Value} (r : RelV (kV k) u) : (mixKind P w).is k u = true := by
  cases k with
  | inl i => obtain ⟨t, e⟩ := (show ∃ t, u = Value.int i t from r); subst e; exact mixKind_int P w i t
  | inr x => obtain ⟨t, e⟩ := (show ∃ t, u = Value.str x t from r); subst e; exact mixKind_str P w x t
theorem items_are {P : Program} {w : World} : ∀ {ks : List Key} {us : List Value}, Vals (ks.map kV) us → ItemsAre (mixKind P w) ks us
  | [], _, r => by rw [List.map_nil] at r; cases r; exact .nil
  | k :: ks, _, r => by
    rw [List.map_cons] at r
    cases r with
    | cons h t => exact .cons (kV_is h) (items_are t)
abbrev KT (H : Hp) : List (List Key × V) → List (List Key × Addr × Value) → Prop := Paired fun p q => p.1 = q.1 ∧ H q.2.1 = some (.tup (p.1.map kV)) ∧ RelV p.2 q.2.2
theorem KT.val {H : Hp} {kvs : List (List Key × V)} {xs : List (List Key × Addr × Value)} (r : KT H kvs xs) (k : List Key) : RelO (valV kvs k) ((atKey xs k).map (·.2)) := by
  induction r with
  | nil => exact True.intro
  | @cons p q ps qs h t ih =>
    obtain ⟨h1, _, h2⟩ := h
    by_cases e : p.1 = k
    · have e' : q.1 = k := h1.symm.trans e
      have b : atKey (q :: qs) k = some q.2 := by simp [atKey, List.find?_cons, e']
      rw [valV_pos e, b]; exact h2
    · have e' : ¬ q.1 = k := fun z => e (h1.trans z)
      have b : atKey (q :: qs) k = atKey qs k := by simp [atKey, List.find?_cons, e']
      rw [valV_neg e, b]; exact ih
theorem KT.repl {H : Hp} {kvs : List (List Key × V)} {xs : List (List Key × Addr × Value)} (r : KT H kvs xs) (k : List Key) {y : V} {u : Value} (ry : RelV y u) :
    KT H (kvs.map fun kv => if kv.1 = k then (kv.1, y) else kv) (xs.map (putAt k u)) := by
  induction r with
  | nil => exact .nil
  | @cons p q ps qs h t ih =>
    rw [List.map_cons, List.map_cons]
    refine .cons ?_ ih
    obtain ⟨h1, h2, h3⟩ := h
    unfold putAt
    by_cases e : p.1 = k
    · rw [if_pos e, if_pos (h1.symm.trans e)]; exact ⟨h1, h2, ry⟩
    · rw [if_neg e, if_neg (fun z => e (h1.trans z))]; exact ⟨h1, h2, h3⟩
theorem KT.put {H : Hp} {kvs : List (List Key × V)} {xs : List (List Key × Addr × Value)} (r : KT H kvs xs) (k : List Key) {b : Addr} {y : V} {u : Value} (hb : H b = some (.tup (k.map kV))) (ry : RelV y u) :
    KT H (putK kvs k y) (storedH xs k b u) := by
  have e : (kvs.any fun kv => decide (kv.1 = k)) = (atKey xs k).isSome := by
    rw [valV_any, (r.val k).isSome_eq, Option.isSome_map]
  unfold putK storedH
  rw [e]
  by_cases q : (atKey xs k).isSome = true
  · rw [if_pos q, if_pos q]; exact r.repl k ry
  · rw [if_neg q, if_neg q]; exact Paired.snoc r ⟨rfl, hb, ry⟩
theorem KT.keeps {H H' : Hp} {kvs : List (List Key × V)} {xs : List (List Key × Addr × Value)} (r : KT H kvs xs) (ht : ∀ b ys, H b = some (.tup ys) → H' b = some (.tup ys)) : KT H' kvs xs :=
  Paired.mapP r fun _ _ z => ⟨z.1, ht _ _ z.2.1, z.2.2⟩
section
variable {P : Program} {w : World} {H : Hp} {h : Heap} {a : Addr}
theorem rd_of {u : HO} (ok : HOk P w H h) (e : Rd H a u) : ObjOk P w H h a u := e.ok ok
theorem dk_rd {kvs : List (Key × V)} (ok : HOk P w H h) (e : Rd H a (.dK kvs)) : kvs.length ≤ sizeLine ∧ (a == sysModules) = false ∧ ∃ vs, KV kvs vs ∧ h.DictOf (mixKind P w) a vs :=
  show ObjOk P w H h a (.dK kvs) from rd_of ok e
theorem dk_of {kvs : List (Key × V)} (ok : HOk P w H h) (e : H a = some (.dK kvs)) : kvs.length ≤ sizeLine ∧ (a == sysModules) = false ∧ ∃ vs, KV kvs vs ∧ h.DictOf (mixKind P w) a vs := dk_rd ok (.inl e)
theorem key_of {ks : List Key} (ok : HOk P w H h) (e : H a = some (.tup (ks.map kV))) : (tupleKind (mixKind P w)).is h ks a := by
  obtain ⟨_, its, r, o, h1, h2, n, h3⟩ := (show ObjOk P w H h a (.tup (ks.map kV)) from ok a _ e)
  exact ⟨o, its.toArray, n, h1, h2, h3, by simpa using items_are r⟩
theorem dt_rd {kvs : List (List Key × V)} (ok : HOk P w H h) (e : Rd H a (.dT kvs)) : kvs.length ≤ sizeLine ∧ (a == sysModules) = false ∧
    ∃ xs, KT H kvs xs ∧ h.DictOfH (tupleKind (mixKind P w)) a xs := by
  obtain ⟨z, y, xs, r, o, es, ep, h1, h2, h3, h4, h5⟩ := (show ObjOk P w H h a (.dT kvs) from rd_of ok e)
  refine ⟨z, y, xs, r, o, es, ep, h1, h2, h3, h4, fun x hx => ?_, h5⟩
  have all : ∀ {l : List (List Key × V)} {m : List (List Key × Addr × Value)}, KT H l m → ∀ x ∈ m, (tupleKind (mixKind P w)).is h x.1 x.2.1 := by
    intro l m q
    induction q with
    | nil => intro x hx; exact nomatch hx
    | @cons p q ps qs hq t ih =>
      intro x hx
      rcases List.mem_cons.mp hx with e | hx
      · subst e
        exact key_of ok (by rw [← hq.1]; exact hq.2.1)
      · exact ih x hx
  exact all r x hx
theorem dt_of {kvs : List (List Key × V)} (ok : HOk P w H h) (e : H a = some (.dT kvs)) : kvs.length ≤ sizeLine ∧ (a == sysModules) = false ∧
    ∃ xs, KT H kvs xs ∧ h.DictOfH (tupleKind (mixKind P w)) a xs := dt_rd ok (.inl e)
end
def DGet (H : Hp) (a : Addr) (y : V) (r : Option V) : Prop :=
  (∃ kvs k, Rd H a (.dK kvs) ∧ y = kV k ∧ r = valV kvs k) ∨ ∃ kvs k b, Rd H a (.dT kvs) ∧ y = .ref b ∧ H b = some (.tup (k.map kV)) ∧ r = valV kvs k
def DPut (H : Hp) (a : Addr) (y v : V) (H' : Hp) : Prop :=
  (∃ kvs k, H a = some (.dK kvs) ∧ y = kV k ∧ kvs.length < sizeLine ∧ H' = upd H a (.dK (putK kvs k v))) ∨
  ∃ kvs k b, H a = some (.dT kvs) ∧ y = .ref b ∧ H b = some (.tup (k.map kV)) ∧ kvs.length < sizeLine ∧ H' = upd H a (.dT (putK kvs k v))
theorem DGet.k {H : Hp} {a : Addr} {kvs : List (Key × V)} {k : Key} (e : H a = some (.dK kvs)) : DGet H a (kV k) (valV kvs k) := .inl ⟨kvs, k, .inl e, rfl, rfl⟩
theorem DGet.t {H : Hp} {a b : Addr} {kvs : List (List Key × V)} {k : List Key} (e : H a = some (.dT kvs)) (eb : H b = some (.tup (k.map kV))) : DGet H a (.ref b) (valV kvs k) := .inr ⟨kvs, k, b, .inl e, rfl, eb, rfl⟩
theorem DPut.k {H : Hp} {a : Addr} {kvs : List (Key × V)} {k : Key} {v : V} (e : H a = some (.dK kvs)) (hl : kvs.length < sizeLine) : DPut H a (kV k) v (upd H a (.dK (putK kvs k v))) := .inl ⟨kvs, k, e, rfl, hl, rfl⟩
theorem DPut.t {H : Hp} {a b : Addr} {kvs : List (List Key × V)} {k : List Key} {v : V} (e : H a = some (.dT kvs)) (eb : H b = some (.tup (k.map kV))) (hl : kvs.length < sizeLine) :
    DPut H a (.ref b) v (upd H a (.dT (putK kvs k v))) := .inr ⟨kvs, k, b, e, rfl, eb, hl, rfl⟩
section
variable {X : Cx} {pins : List (Addr × Obj)} {σ : St} {H : Hp} {s : Shared} {a : Addr} {y v : V} {u r : Value} {o : Option V} {A : Around} {E : Value → Shared → Prop}
theorem Inv.big (I : Inv X pins σ H s) : sysModules < s.heap.objs.size := by
  have h : mainGlobals < s.heap.objs.size := (I.mod.glob.keeps I.bk).lt
  exact Nat.lt_trans (by decide) h
theorem d_write {h' : Heap} {t' : Nat} {ob : HO} (I : Inv X pins σ H s) (mu : Mut (H a)) (hs : Heap.SameBut a s.heap h') (he : ∃ q, h'.get? a = some q) (new : ObjOk X.prog X.w (upd H a ob) h' a ob) :
    Inv X pins σ (upd H a ob) { s with heap := h', toks := t' } :=
  I.write (x := a) (e := a) mu (.inl rfl) (fun b q hb z => (hs.2 b hb).trans z) he new
theorem dk_new {P : Program} {w : World} {H' : Hp} {h' : Heap} {kvs : List (Key × V)} {vs : List (Key × Value)} (z : kvs.length ≤ sizeLine) (hd : (a == sysModules) = false) (rel : KV kvs vs) (dd : h'.DictOf (mixKind P w) a vs) :
    ObjOk P w H' h' a (.dK kvs) := ⟨z, hd, vs, rel, dd⟩
theorem d_setItem {H' : Hp} {Q : Unit → Shared → Prop} (hu : A.units + 1 < cLine) (I : Inv X pins σ H s) (g : DPut H a y v H') (ry : RelV y u) (rv : RelV v r) (h : ∀ s', Inv X pins σ H' s' → Q () s') :
    wpAny (model X.prog X.w) A (setItem (.ref a) u r) Q E s := by
  rcases g with ⟨kvs, k, e, ey, l, eH⟩ | ⟨kvs, k, b, e, ey, eb, l, eH⟩
  · subst ey eH
    obtain ⟨z, hd, vs, rel, dd⟩ := dk_of I.hok e
    have hz : vs.length ≤ sizeLine := by rw [← rel.length]; exact z
    have hl : (putK kvs k v).length ≤ sizeLine := by have := length_putK kvs k v; omega
    refine wpAny_setItem_pairs (hsz := hz) (kV_is ry) dd fun h' dd' hs => h _ ?_
    have he : ∃ q, h'.get? a = some q := let ⟨q, _, _, hq, _⟩ := dd'; ⟨q, hq⟩
    exact d_write I (by rw [e]; exact True.intro) hs he (dk_new hl hd (rel.put k rv) dd')
  · subst ey eH
    cases (show u = Value.ref b from ry)
    obtain ⟨z, hd, xs, rel, dd⟩ := dt_of I.hok e
    have hz : xs.length ≤ sizeLine := by rw [← Paired.length rel]; exact z
    have hl : (putK kvs k v).length ≤ sizeLine := by have := length_putK kvs k v; omega
    refine wpAny_setItem_heap (hsz := hz) (tupleKind_room_in1 hu) (key_of I.hok eb) dd fun h' dd' hs => h _ ?_
    obtain ⟨q, es, ep, hq, h2, h3, h4, _, h5⟩ := dd'
    refine d_write I (by rw [e]; exact True.intro) hs ⟨q, hq⟩ ⟨hl, hd, _, (rel.put k eb rv).keeps fun c ys ec => ?_, q, es, ep, hq, h2, h3, h4, h5⟩
    rw [upd_ne (ne_of ec e (fun z => nomatch z))]
    exact ec
end
section
variable {X : Cx} {pins : List (Addr × Obj)} {σ : St} {H : Hp} {s : Shared} {a : Addr} {kvs : List (Key × V)} {k : Key} {u : Value} {A : Around} {E : Value → Shared → Prop}
end
def tDIn (ty td : TE) : TE := fun σ H Q => ty σ H fun y H1 => td σ H1 fun x H2 => ∃ a o, x = .ref a ∧ DGet H2 a y o ∧ Q (.bl o.isSome) H2
def sDPut (td ty tv : TE) : TS := fun D σ H => tv σ H fun v H1 => td σ H1 fun x H2 => ty σ H2 fun y H3 => ∃ a H4, x = .ref a ∧ DPut H3 a y v H4 ∧ D.nx σ H4
section
variable {X : Cx} {o i e value : Expr} {pos pos' tpos : Pos} {td ty tv : TE}
theorem ps_dput (hu : X.A.units + 1 < cLine) (ho : PE X o td) (hi : PE X i ty) (hv : PE X value tv) (hs : swapsWith value (some (.Subscript o i pos')) pos.line X.env = pure false) :
    PS X (.Assign [.Subscript o i pos'] value pos) (sDPut td ty tv) := by
  intro pins s σ H D I h
  refine wpAny_Assign_Subscript (thn (hv pins s σ H _ I h) fun r s1 ⟨v, H1, I1, rv, q1⟩ => thn (ho pins s1 σ H1 _ I1 q1) fun u s2 ⟨x, H2, I2, rx, q2⟩ => thn (hi pins s2 σ H2 _ I2 q2) fun iv s3 ⟨y, H3, I3, ry, a, H4, ex, g, q3⟩ => ?_) hs
  subst ex
  obtain rfl : u = Value.ref a := rx
  exact d_setItem hu I3 g ry rv fun s4 I4 => ⟨σ, H4, I4, q3⟩
end
theorem dk_empty {P : Program} {w : World} {H : Hp} (h : Heap) (hb : sysModules < h.objs.size) : ObjOk P w H (h.push { cls := .type "dict", data := .dict #[] }) h.objs.size (.dK []) :=
  ⟨Nat.zero_le _, beq_eq_false_iff_ne.mpr (Ne.symm (Nat.ne_of_lt hb)), [], .nil, Heap.DictOf.new h⟩
def tDNewK : TE := fun _ H Q => ∀ p, H p = none → Q (.ref p) (upd H p (.dK []))
section
variable {X : Cx} {pos : Pos}
theorem pe_dnewK : PE X (.Dict [] [] pos) tDNewK := fun pins s σ H Q I h =>
  wpAny_Dict_empty ⟨.ref s.heap.objs.size, _, I.laid (a := s.heap.objs.size) (o := .dK []) (t' := s.toks) (fun _ _ q => Heap.get?_push_of_some _ q) (Nat.le_refl _) (dk_empty s.heap I.big), rfl, h _ (I.hok.fresh (Nat.le_refl _))⟩
end
def mergeK (kvs more : List (Key × V)) : List (Key × V) := more.foldl (fun acc kv => putK acc kv.1 kv.2) kvs
theorem KV.merge : ∀ {more : List (Key × V)} {rs : List (Key × Value)} {kvs : List (Key × V)} {vs : List (Key × Value)}, KV more rs → KV kvs vs → KV (mergeK kvs more) (merged vs rs) := by
  intro more rs kvs vs r
  unfold KV at r
  induction r generalizing kvs vs with
  | nil => intro q; exact q
  | @cons p q ps qs h t ih =>
    intro r0
    have e : KV (putK kvs p.1 p.2) (stored vs q.1 q.2) := by
      have := r0.put p.1 h.2
      rw [← h.1]; exact this
    exact ih e
theorem length_mergeK : ∀ (more kvs : List (Key × V)), (mergeK kvs more).length ≤ kvs.length + more.length
  | [], kvs => by show kvs.length ≤ kvs.length + 0; omega
  | p :: r, kvs => by
    have h1 := length_mergeK r (putK kvs p.1 p.2)
    have h2 := length_putK kvs p.1 p.2
    show (mergeK (putK kvs p.1 p.2) r).length ≤ _
    rw [List.length_cons]; omega
structure M1 (X : Cx) (o : Expr) (m : Str) (apos : Pos) (e : Expr) (cpos : Pos) : Prop where
  base : attributeBase o m X.env (eval o X.env) = eval o X.env
  few : ((backTo cpos (starEach [e] X.env)).all (fun x => !x.1) && (backToKw cpos (keywordEach [] X.env)).all (fun x => x.1.isSome)
    && decide (([e] : List Expr).length + ([] : List Keyword).length + (if ([] : List Keyword).isEmpty then 0 else 1) < 30)) = true
  line : (apos.endLine == cpos.line) = true
  trees : backTo cpos (starEach [e] X.env) = [(false, eval e X.env)]
structure M2 (X : Cx) (o : Expr) (m : Str) (apos : Pos) (e f : Expr) (cpos : Pos) : Prop where
  base : attributeBase o m X.env (eval o X.env) = eval o X.env
  few : ((backTo cpos (starEach [e, f] X.env)).all (fun x => !x.1) && (backToKw cpos (keywordEach [] X.env)).all (fun x => x.1.isSome)
    && decide (([e, f] : List Expr).length + ([] : List Keyword).length + (if ([] : List Keyword).isEmpty then 0 else 1) < 30)) = true
  line : (apos.endLine == cpos.line) = true
  trees : backTo cpos (starEach [e, f] X.env) = [(false, eval e X.env), (false, eval f X.env)]
def IsD (H : Hp) (a : Addr) : Prop := (∃ kvs, Rd H a (.dK kvs)) ∨ ∃ kvs, Rd H a (.dT kvs)
section
variable {X : Cx} {pins : List (Addr × Obj)} {σ : St} {H : Hp} {s : Shared} {a : Addr} {y d : V} {u r : Value} {o : Option V} {A : Around} {E : Value → Shared → Prop}
end
def tDGet1 (td ty : TE) : TE := fun σ H Q => td σ H fun x H1 => ∃ a, x = .ref a ∧ IsD H1 a ∧ ty σ H1 fun y H2 => ∃ o, DGet H2 a y o ∧ Q (o.getD .non) H2
section
variable {X : Cx} {o e f : Expr} {apos cpos : Pos} {td ty tx : TE}
end
section
variable {X : Cx} {pins : List (Addr × Obj)} {σ : St} {H : Hp} {s : Shared} {a : Addr} {kvs : List (Key × V)} {A : Around} {E : Value → Shared → Prop}
end
section
variable {X : Cx} {pins : List (Addr × Obj)} {σ : St} {H : Hp} {s : Shared} {a : Addr} {y : V} {u : Value} {A : Around} {E : Value → Shared → Prop}
end
end L2
namespace L2
open PySem PySem.Spec PyProof.Rows
section
variable {X : Cx}
end
section
variable {κ : Type} [DecidableEq κ]
theorem nd_snoc : ∀ {l : List κ} {k : κ}, l.Nodup → ¬ k ∈ l → (l ++ [k]).Nodup
  | [], k, _, _ => by simp
  | a :: r, k, h, hk => by
    obtain ⟨h1, h2⟩ := List.nodup_cons.mp h
    show (a :: (r ++ [k])).Nodup
    refine List.nodup_cons.mpr ⟨fun m => ?_, nd_snoc h2 fun m => hk (List.mem_cons.mpr (Or.inr m))⟩
    rcases List.mem_append.mp m with q | q
    · exact h1 q
    · exact hk (List.mem_cons.mpr (Or.inl (List.mem_singleton.mp q).symm))
end
end L2
namespace L2
open PySem PySem.Spec PyProof.Rows
def KTab (P : Program) (w : World) (K : PySem.W.Frag) (d : Addr) (kvs : List (Str × Addr)) : Prop := (d == sysModules) = false ∧ ∀ h : Heap, K.In h → h.DictOf (mixKind P w) d (kvs.map fun p => ((Sum.inr p.1 : Key), Value.ref p.2))
def entT (pm : Params) (l : List (Str × Tok × Addr)) : List DictEntry := l.map fun p => ⟨PyData.keyHash pm p.1, .str p.1 p.2.1, .ref p.2.2⟩
theorem KTab.mk {P : Program} {w : World} {K : PySem.W.Frag} {d : Addr} {l : List (Str × Tok × Addr)} {es : Array DictEntry} {n : Nat} (hd : (d == sysModules) = false) (hl : K.lookup d = some { cls := .type "dict", data := .dict es n }) (he : es.toList = entT w.params l) (nd : (l.map (·.1)).Nodup) :
    KTab P w K d (l.map fun p => (p.1, p.2.2)) := by
  refine ⟨hd, fun h KI => ⟨_, es, n, KI d _ hl, ⟨rfl, rfl, rfl⟩, rfl, ?_, ?_, ?_⟩⟩
  · intro e hm
    have hm : e ∈ es.toList := Array.mem_toList_iff.mpr hm
    rw [he] at hm
    obtain ⟨p, _, rfl⟩ := List.mem_map.mp hm
    exact ⟨Sum.inr p.1, keyIs_str p.1 p.2.1, rfl⟩
  · rw [he]
    clear he nd hl
    induction l with
    | nil => exact .nil
    | cons p r ih => exact .cons (keyIs_str p.1 p.2.1) rfl ih
  · rw [List.map_map, List.map_map]
    have e : ((fun x : Key × Value => x.1) ∘ (fun p : Str × Addr => ((Sum.inr p.1 : Key), Value.ref p.2))) ∘ (fun p : Str × Tok × Addr => (p.1, p.2.2)) = (fun x : Str => (Sum.inr x : Key)) ∘ fun p => p.1 := rfl
    rw [← List.map_map] at *
    have z : (l.map fun p => (Sum.inr p.1 : Key)).Nodup := by
      have : (l.map fun p => (Sum.inr p.1 : Key)) = (l.map (·.1)).map (fun x : Str => (Sum.inr x : Key)) := by rw [List.map_map]; rfl
      rw [this]
      exact List.Pairwise.map _ (fun a b (h : a ≠ b) z => h (Sum.inr.inj z)) nd
    simpa [List.map_map, Function.comp_def] using z
section
variable {X : Cx}
def rKTab (kvs : List (Str × Addr)) : V → Hp → VK → Prop := fun y H Q => ∃ x a, y = .str x ∧ kvs.lookup x = some a ∧ Q (.ref a) H
def tKTab (kvs : List (Str × Addr)) (te : TE) : TE := fun σ H Q => te σ H fun y H1 => rKTab kvs y H1 Q
def tKIn (kvs : List (Str × Addr)) (te : TE) : TE := fun σ H Q => te σ H fun y H1 => ∃ x, y = .str x ∧ Q (.bl (kvs.lookup x).isSome) H1
end
end L2
namespace L2
open PySem PySem.Spec PyProof.Rows
section
variable {pg : Program} {wd : World} {B : Around} {X0 : Value → Shared → Prop} {s0 : Shared}
end
def ItzM (K : PySem.W.Frag) (a b : Addr) : It := ⟨fun i H => ∃ xs ys x y, SqL K H a xs ∧ SqT K H b ys ∧ xs[i]? = some x ∧ ys[i]? = some y,
  fun i H v H' => ∃ T x y, v = .ref T ∧ H T = none ∧ H' = upd H T (.tup [x, y]) ∧ ∀ xs ys, SqL K H a xs → SqT K H b ys → xs[i]? = some x ∧ ys[i]? = some y, fun i H => ∃ xs ys, SqL K H a xs ∧ SqT K H b ys ∧ (xs.length ≤ i ∨ ys.length ≤ i)⟩
section
variable {X : Cx} {es : List Expr} {x1 : Nat} {pp : Pos}
def iZipM (K : PySem.W.Frag) (ta : TA) : TI := fun σ H R => ta σ H fun vs H1 => ∃ a b xs ys, vs = [.ref a, .ref b] ∧ SqL K H1 a xs ∧ SqT K H1 b ys ∧ R (ItzM K a b) H1
end
def LoopZM (K : PySem.W.Frag) (g : TG) (tb : TS) (D : Ends) (σ : St) (vs : List V) (H1 : Hp) : Prop := ∃ a b xs ys, vs = [.ref a, .ref b] ∧ SqL K H1 a xs ∧ SqT K H1 b ys ∧ ∃ W : Nat → Nat → St → Hp → Prop, (∃ m, W 0 m σ H1) ∧ ∀ i m σ H, W i m σ H →
  ((ItzM K a b).stop i H ∧ D.nx σ H) ∨ ((ItzM K a b).go i H ∧ ∃ N : St → Hp → Prop, (∀ σ' H', N σ' H' → ∃ m', m' < m ∧ W (i + 1) m' σ' H') ∧ ∀ x H', (ItzM K a b).yld i H x H' → g x σ H' fun σ2 H2 => tb { D with nx := N, ct := N, bk := D.nx } σ2 H2)
theorem for_eqZM {K : PySem.W.Frag} {ta : TA} {g : TG} {tb : TS} {D : Ends} {σ : St} {H : Hp} : tFor (iZipM K ta) g tb D σ H = ta σ H fun vs H1 => LoopZM K g tb D σ vs H1 := rfl
theorem LoopZM.mk {K : PySem.W.Frag} {a b : Addr} {xs ys : List V} {g : TG} {tb : TS} {D : Ends} {σ : St} {H : Hp} (n : Nat) (hn : n = min xs.length ys.length) (h1 : SqL K H a xs) (h2 : SqT K H b ys) (Pv : Nat → St → Hp → Prop) (h0 : Pv 0 σ H) (hl : ∀ i σ H, i ≤ n → Pv i σ H → SqL K H a xs ∧ SqT K H b ys)
    (hs : ∀ i x y σ H T, i < n → xs[i]? = some x → ys[i]? = some y → Pv i σ H → H T = none → g (.ref T) σ (upd H T (.tup [x, y])) fun σ2 H2 => tb { D with nx := Pv (i + 1), ct := Pv (i + 1), bk := D.nx } σ2 H2) (hd : ∀ σ H, Pv n σ H → D.nx σ H) :
    LoopZM K g tb D σ [.ref a, .ref b] H := by
  subst hn
  refine ⟨a, b, xs, ys, rfl, h1, h2, fun i m σ H => m = min xs.length ys.length - i ∧ i ≤ min xs.length ys.length ∧ Pv i σ H, ⟨_, rfl, Nat.zero_le _, h0⟩, ?_⟩
  rintro i m σ H ⟨rfl, hi, p⟩
  obtain ⟨k1, k2⟩ := hl i σ H hi p
  by_cases hlt : i < min xs.length ys.length
  · have l1 : i < xs.length := by omega
    have l2 : i < ys.length := by omega
    refine .inr ⟨⟨xs, ys, _, _, k1, k2, List.getElem?_eq_getElem l1, List.getElem?_eq_getElem l2⟩, Pv (i + 1), fun σ' H' p' => ⟨min xs.length ys.length - (i + 1), by omega, rfl, hlt, p'⟩, fun v H' yy => ?_⟩
    obtain ⟨T, x, y, rfl, hT, rfl, ex⟩ := yy
    obtain ⟨ex1, ex2⟩ := ex xs ys k1 k2
    exact hs i x y σ H T hlt ex1 ex2 p hT
  · have e : i = min xs.length ys.length := by omega
    exact .inl ⟨⟨xs, ys, k1, k2, by omega⟩, hd σ H (e ▸ p)⟩
def CompZM (K : PySem.W.Frag) (k : Nat) (js : List Nat) (g : TG) (te : TE) (σ : St) (vs : List V) (H1 : Hp) (Q : VK) : Prop := ∃ a b xs ys, vs = [.ref a, .ref b] ∧ SqL K H1 a xs ∧ SqT K H1 b ys ∧ ∃ W : Nat → Nat → List V → St → Hp → Prop, (∃ m, W 0 m [] (compSt k js σ) H1) ∧ ∀ i m zs σ' H', W i m zs σ' H' →
    ((ItzM K a b).stop i H' ∧ ∀ p, H' p = none → Q (.ref p) (upd H' p (.lst zs))) ∨
    ((ItzM K a b).go i H' ∧ zs.length < sizeLine ∧ ∃ N : List V → St → Hp → Prop, (∀ zs σ2 H2, N zs σ2 H2 → ∃ m', m' < m ∧ W (i + 1) m' zs σ2 H2) ∧ ∀ x H2, (ItzM K a b).yld i H' x H2 → g x σ' H2 fun σ3 H3 => te σ3 H3 fun v H4 => N (zs ++ [v]) σ3 H4)
theorem comp_eqZM {K : PySem.W.Frag} {k : Nat} {js : List Nat} {ta : TA} {g : TG} {te : TE} {σ : St} {H : Hp} {Q : VK} : tComp (iZipM K ta) k js g te σ H Q = ta σ H fun vs H1 => CompZM K k js g te σ vs H1 Q := rfl
theorem CompZM.mk {K : PySem.W.Frag} {a b : Addr} {xs ys : List V} {k : Nat} {js : List Nat} {g : TG} {te : TE} {Q : VK} {σ : St} {H : Hp} (n : Nat) (hn : n = min xs.length ys.length) (h1 : SqL K H a xs) (h2 : SqT K H b ys) (Pv : Nat → List V → St → Hp → Prop) (h0 : Pv 0 [] (compSt k js σ) H) (hl : ∀ i zs σ H, i ≤ n → Pv i zs σ H → SqL K H a xs ∧ SqT K H b ys)
    (hs : ∀ i x y zs σ H T, i < n → xs[i]? = some x → ys[i]? = some y → Pv i zs σ H → H T = none → zs.length < sizeLine ∧ g (.ref T) σ (upd H T (.tup [x, y])) fun σ3 H3 => te σ3 H3 fun v H4 => Pv (i + 1) (zs ++ [v]) σ3 H4) (hz : ∀ zs σ H, Pv n zs σ H → ∀ p, H p = none → Q (.ref p) (upd H p (.lst zs))) (hlen : ∀ i zs σ H, Pv i zs σ H → zs.length < sizeLine) :
    CompZM K k js g te σ [.ref a, .ref b] H Q := by
  subst hn
  refine ⟨a, b, xs, ys, rfl, h1, h2, fun i m zs σ H => m = min xs.length ys.length - i ∧ i ≤ min xs.length ys.length ∧ Pv i zs σ H, ⟨_, rfl, Nat.zero_le _, h0⟩, ?_⟩
  rintro i m zs σ H ⟨rfl, hi, p⟩
  obtain ⟨k1, k2⟩ := hl i zs σ H hi p
  by_cases hlt : i < min xs.length ys.length
  · have l1 : i < xs.length := by omega
    have l2 : i < ys.length := by omega
    refine .inr ⟨⟨xs, ys, _, _, k1, k2, List.getElem?_eq_getElem l1, List.getElem?_eq_getElem l2⟩, hlen _ _ _ _ p, Pv (i + 1), fun zs' σ' H' p' => ⟨min xs.length ys.length - (i + 1), by omega, rfl, hlt, p'⟩, fun v H' yy => ?_⟩
    obtain ⟨T, x, y, rfl, hT, rfl, ex⟩ := yy
    obtain ⟨ex1, ex2⟩ := ex xs ys k1 k2
    exact (hs i x y zs σ H T hlt ex1 ex2 p hT).2
  · have e : i = min xs.length ys.length := by omega
    exact .inl ⟨⟨xs, ys, k1, k2, by omega⟩, hz zs σ H (e ▸ p)⟩
def CompTI (K : PySem.W.Frag) (k : Nat) (js : List Nat) (g : TG) (tc : TT) (te : TE) (σ : St) (v : V) (H1 : Hp) (Q : VK) : Prop := ∃ a, v = .ref a ∧ (∃ xs, SqT K H1 a xs) ∧ ∃ W : Nat → Nat → List V → St → Hp → Prop, (∃ m, W 0 m [] (compSt k js σ) H1) ∧ ∀ i m zs σ' H', W i m zs σ' H' →
    ((Itt K a).stop i H' ∧ ∀ p, H' p = none → Q (.ref p) (upd H' p (.lst zs))) ∨
    ((Itt K a).go i H' ∧ zs.length < sizeLine ∧ ∃ N : List V → St → Hp → Prop, (∀ zs σ2 H2, N zs σ2 H2 → ∃ m', m' < m ∧ W (i + 1) m' zs σ2 H2) ∧ ∀ x H2, (Itt K a).yld i H' x H2 → g x σ' H2 fun σ3 H3 => tc σ3 H3 fun b H4 => if b = true then te σ3 H4 fun v H5 => N (zs ++ [v]) σ3 H5 else N zs σ3 H4)
theorem comp_eqTI {K : PySem.W.Frag} {k : Nat} {js : List Nat} {tx : TE} {g : TG} {tc : TT} {te : TE} {σ : St} {H : Hp} {Q : VK} : tCompI (iTup K tx) k js g tc te σ H Q = tx σ H fun v H1 => CompTI K k js g tc te σ v H1 Q := rfl
theorem CompTI.mk {K : PySem.W.Frag} {a : Addr} {xs : List V} {k : Nat} {js : List Nat} {g : TG} {tc : TT} {te : TE} {Q : VK} {σ : St} {H : Hp} (h1 : SqT K H a xs) (Pv : Nat → List V → St → Hp → Prop) (h0 : Pv 0 [] (compSt k js σ) H) (hl : ∀ i zs σ H, i ≤ xs.length → Pv i zs σ H → SqT K H a xs ∧ zs.length < sizeLine)
    (hs : ∀ i x zs σ H, xs[i]? = some x → Pv i zs σ H → g x σ H fun σ3 H3 => tc σ3 H3 fun b H4 => if b = true then te σ3 H4 fun v H5 => Pv (i + 1) (zs ++ [v]) σ3 H5 else Pv (i + 1) zs σ3 H4) (hz : ∀ zs σ H, Pv xs.length zs σ H → ∀ p, H p = none → Q (.ref p) (upd H p (.lst zs))) :
    CompTI K k js g tc te σ (.ref a) H Q := by
  refine ⟨a, rfl, ⟨xs, h1⟩, fun i m zs σ H => m = xs.length - i ∧ i ≤ xs.length ∧ Pv i zs σ H, ⟨_, rfl, Nat.zero_le _, h0⟩, ?_⟩
  rintro i m zs σ H ⟨rfl, hi, p⟩
  obtain ⟨k1, k2⟩ := hl i zs σ H hi p
  by_cases hlt : i < xs.length
  · refine .inr ⟨⟨xs, _, k1, List.getElem?_eq_getElem hlt⟩, k2, Pv (i + 1), fun zs' σ' H' p' => ⟨xs.length - (i + 1), by omega, rfl, hlt, p'⟩, fun v H' yy => ?_⟩
    obtain ⟨rfl, ex⟩ := yy
    exact hs i v zs σ _ (ex xs k1) p
  · have e : i = xs.length := by omega
    exact .inl ⟨⟨xs, k1, by omega⟩, hz zs σ H (e ▸ p)⟩
end L2
namespace L2
open PySem PySem.Spec PyProof.Rows
section
variable {X : Cx}
def rJoinD (K : PySem.W.Frag) : V → List V → Hp → VK → Prop := fun x xs H Q => ∃ (z : Str) (l : Addr) (ys : List Str), x = .str z ∧ z.length = 0 ∧ xs = [.ref l] ∧ SqL K H l (ys.map V.str) ∧ ys.length ≤ 100 ∧ (∀ y ∈ ys, okS 10 y) ∧ (okS 1000 (Builtin.Str.glued z ys) → Q (.str (Builtin.Str.glued z ys)) H)
end
theorem cl_sub3 {cells : List (Str × Addr)} {y z u : Str} {a b d : Addr} (h : cells.lookup y = some a) (h2 : cells.lookup z = some b) (h3 : cells.lookup u = some d) : ∀ x c, [(y, a), (z, b), (u, d)].lookup x = some c → cells.lookup x = some c := fun x c e => by
  rcases List.mem_cons.mp (PySem.mem_of_lookup e) with q | q
  · cases q; exact h
  · rcases List.mem_cons.mp q with q | q
    · cases q; exact h2
    · cases List.mem_singleton.mp q; exact h3
end L2
namespace L2
open PySem PySem.Spec PyProof.Rows
structure FunD (K : PySem.W.Frag) (x qual : Str) (st : Stmt) (dV : Addr) (its : Array Value) (f : Addr) (fd : FuncData) : Prop where
  ex : ∃ (oc : Value) (od : Option Addr) (kV doc pm : Value) (an : Option Addr) (cdv ct : Value) (osl : Array (Option Value)),
    fd = PySem.W.fnOf x qual (defArgs st) (defBody st) (defScope st) (.ref dV) kV doc pm an cdv ct ∧ K.lookup f = some ⟨oc, od, .func fd, osl⟩ ∧ PySem.W.codeIn K cdv qual = true
  kp : PySem.W.keepIn K (.ref f) = true
  dt : ∃ (o : Obj) (n : Nat), K.lookup dV = some o ∧ o.data = .seq its n
section
variable {P : Program} {w : World} {K : PySem.W.Frag} {mg : Str → Option Value} {base : Heap}
theorem FunD.ok {x qual : Str} {st : Stmt} {dV : Addr} {its : Array Value} {f : Addr} {fd : FuncData} {N ps : List Str} {k : Nat} {sp : Sp} (F : FunD K x qual st dV its f fd) (S : FnScope N ps (defScope st)) (len : ∀ vs H Q E, sp vs H Q E → vs.length = ps.length)
    (hbody : ∀ (cdv : Value) (A : Around) (outer : List Env) (s : Shared) (H : Hp) (vs : List V) (Q : VK) (E : XK), Room k (A.deeper (envOfC qual (defScope st) s.heap.objs.size f cdv)) → sp vs H Q E →
      ∃ t, PSs (cxOf CX0 P w K mg base N qual (defScope st) f cdv A outer s H E).nox (defBody st) t ∧ t { nx := fun _ H' => Q .non H', rt := Q } (start N vs) H) : FnOk P w K mg base CX0 (k + 1) f fd ps sp := by
  obtain ⟨oc, od, kV, doc, pm, an, cdv, ct, osl, rfl, lk, hcd⟩ := F.ex
  refine fn_of lk hcd S len fun A outer s H vs Q E hr hsp => ?_
  obtain ⟨t, h, q⟩ := hbody cdv A outer s H vs Q E hr hsp
  exact ⟨t, h.nox, q⟩
theorem FunD.binds {x qual : Str} {st : Stmt} {dV : Addr} {its : Array Value} {f : Addr} {fd : FuncData} {ps : List Str} {ds : List Value} (F : FunD K x qual st dV its f fd)
    (h : ∀ (kV doc pm : Value) (an : Option Addr) (cdv ct : Value) (us : List Value), (us ++ ds).length = ps.length → ∃ k, bindArgs (PySem.W.fnOf x qual (defArgs st) (defBody st) (defScope st) (.ref dV) kV doc pm an cdv ct) ⟨us, []⟩ = seqItems? (.ref dV) >>= k ∧ k (some its) = pure (ps.zip (us ++ ds))) : Binds K fd ps ds := by
  obtain ⟨oc, od, kV, doc, pm, an, cdv, ct, osl, rfl, lk, hcd⟩ := F.ex
  obtain ⟨o, n, ho, hs⟩ := F.dt
  intro s us KI hl
  obtain ⟨k, h1, h2⟩ := h kV doc pm an cdv ct us hl
  exact .of_defaults (T := dV) rfl (KI dV o ho) hs h1 h2
end
structure CalleeD (P : Program) (w : World) (K : PySem.W.Frag) (mg : Str → Option Value) (base : Heap) (CX : CXT) (k : Nat) (x : Str) (ps : List Str) (dvs : List V) (sp : Sp) : Prop where
  has : ∃ (f : Addr) (fd : FuncData) (ds : List Value), FnOk P w K mg base CX k f fd ps sp ∧ mg x = some (.ref f) ∧ PySem.W.keepIn K (.ref f) = true ∧ Binds K fd ps ds ∧ Vals dvs ds
theorem CalleeD.mono {P : Program} {w : World} {K : PySem.W.Frag} {mg : Str → Option Value} {base : Heap} {CX : CXT} {j k : Nat} {x : Str} {ps : List Str} {dvs : List V} {sp : Sp} (c : CalleeD P w K mg base CX j x ps dvs sp) (h : j ≤ k) : CalleeD P w K mg base CX k x ps dvs sp :=
  let ⟨f, fd, ds, ok, m, kp, b, v⟩ := c.has; ⟨⟨f, fd, ds, ok.mono h, m, kp, b, v⟩⟩
section
variable {X : Cx} {CX : CXT} {k : Nat} {ps : List Str} {dvs : List V} {sp : Sp} {E : XK} {x : Str} {p pos : Pos} {e : Expr} {es : List Expr} {t : TA}
end
def totS (z : Str) (ys : List Str) : Nat := ys.foldl (fun (n : Nat) (y : Str) => n + y.length + z.length) 0
section
variable {X : Cx}
def rJoinW (K : PySem.W.Frag) : V → List V → Hp → VK → Prop := fun x xs H Q => ∃ (z : Str) (l : Addr) (ys : List Str), x = .str z ∧ xs = [.ref l] ∧ SqL K H l (ys.map V.str) ∧ totS z ys ≤ 1000000 ∧ Q (.str (Builtin.Str.glued z ys)) H
def rMulS : R2 := fun x y H Q => ∃ a n, x = .str a ∧ y = .int n ∧ 0 ≤ n ∧ n ≤ 100 ∧ a.length ≤ 10 ∧ ∀ z : Str, z.length = a.length * n.toNat → Q (.str z) H
def rIxQ : R2 := fun x y H Q => ∃ p xs i v, x = .ref p ∧ y = .int i ∧ (H p = some (.lst xs) ∨ H p = some (.tup xs)) ∧ atI xs i = some v ∧ Q v H
end
end L2
namespace L2
open PySem PySem.Spec PyProof.Rows
section
open PySem.Builtin PySem.Builtin.Str
def splitL (c : Nat) : List Nat → List (List Nat)
  | [] => [[]]
  | d :: r => if d = c then [] :: splitL c r else match splitL c r with
    | [] => [[d]]
    | p :: ps => (d :: p) :: ps
def strL (L : List Nat) : Str := ⟨L.toArray⟩
section
variable {X : Cx}
def rSplit : V → List V → Hp → VK → Prop := fun x ys H Q => ∃ (t : Str) (c : Nat), x = .str t ∧ ys = [.str ⟨#[c]⟩] ∧ c < 256 ∧ t.length ≤ 1000000 ∧ ∀ l, H l = none → Q (.ref l) (upd H l (.lst ((splitL c t.cps.toList).map fun w => V.str (strL w))))
end
end
theorem hu1 {k : Nat} {A : Around} (r : Room k A) : A.units + 1 < cLine := by have := r.un; omega
section
variable {X : Cx}
def rInN : R2 := fun x y H Q => ∃ p xs, x = .non ∧ y = .ref p ∧ H p = some (.lst xs) ∧ (∀ z ∈ xs, flatV z = true ∨ ∃ a ys, z = .ref a ∧ H a = some (.tup ys)) ∧ Q (.bl (xs.any fun z => eqV z .non)) H
end
section
variable {pg : Program} {wd : World} {B : Around} {X0 : Value → Shared → Prop} {s0 : Shared} {J d : Addr} {m : Nat} {Pr : Nat → Value → Prop} {OK : Heap → Prop}
end
theorem key_rel {P : Program} {w : World} {k : Key} {v : Value} (h : (mixKind P w).is k v = true) : RelV (kV k) v := by
  rcases keyIs_shape h with ⟨i, t, rfl, rfl⟩ | ⟨x, t, rfl, rfl⟩ <;> exact ⟨t, rfl⟩
theorem keys_vals {P : Program} {w : World} {kvs : List (Key × V)} {vs : List (Key × Value)} {ac : Array Value} (r : KV kvs vs) (it : ItemsOf (fun i v => ∃ k x, vs[i]? = some (k, x) ∧ (mixKind P w).is k v = true) ac vs.length) : Vals (kvs.map fun kv => kV kv.1) ac.toList := by
  refine vals_of_get (by rw [List.length_map, r.length, ← it.1]; exact Array.length_toList.symm) fun i u e => ?_
  rw [Array.getElem?_toList] at e
  obtain ⟨k, x, e1, e2⟩ := it.2 i u e
  refine ⟨kV k, ?_, key_rel e2⟩
  have z := congrArg (fun l : List Key => l[i]?) r.keys
  simp only [List.getElem?_map, e1, Option.map_some] at z
  rw [List.getElem?_map]
  cases g : kvs[i]? with
  | none => rw [g] at z; cases z
  | some kv => rw [g] at z; simp only [Option.map_some, Option.some.injEq] at z ⊢; rw [z]
section
variable {X : Cx}
def rMulC : R2 := fun x y H Q => ∃ a n, x = .str (strL a) ∧ y = .int n ∧ 0 ≤ n ∧ n ≤ 100 ∧ a.length ≤ 10 ∧ Q (.str (strL (List.replicate n.toNat a).flatten)) H
end
end L2
namespace L2
open PySem PySem.Spec PyProof.Rows
section
variable {pg : Program} {wd : World} {B : Around} {X0 : Value → Shared → Prop} {z0 : Shared}
theorem ext_tup {l b : Addr} {xs ys : Array Value} {k n : Nat} {u : Obj} {R : Value → Shared → Prop} (gl : z0.heap.get? l = some { cls := .type "list", dict := none, data := .seq xs k, slots := #[] }) (gb : z0.heap.get? b = some u) (cb : u.cls = .type "tuple") (db : u.data = .seq ys n) (fit : xs.size + ys.size ≤ sizeLine)
    (fin : R .none { z0 with heap := z0.heap.update l (Obj.mapSeq (· ++ ys)) }) : wpAny (model pg wd) B (call (.builtin "list.extend") [.ref l, .ref b]) R X0 z0 := by
  refine wpAny_call_entry F.slot_list_extend ⟨_, gl, rfl⟩ F.entry_list_extend ?_ (F.args_list_extend_2 _ _)
  show wpAny _ _ (Builtin.List.listExtendWith (.ref l) (.ref b) .none) _ _ z0
  unfold Builtin.List.listExtendWith
  refine wpAny_bind (wpAny_typeOf ⟨u, gb, cb⟩ ?_)
  have one : (Builtin.List.listSameRef (.ref l) (.ref b) || Value.type "tuple" == Value.type "list" || Value.type "tuple" == Value.type "tuple") = true := by simp
  rw [if_pos one]
  refine wpAny_bind ?_
  unfold Builtin.List.listItems
  refine wpAny_bind (wpAny_seqItems gb db (wpAny_pure ?_))
  refine wpAny_bind ?_
  refine wpAny_bind (wpAny_seqItems gl rfl (wpAny_pure ?_))
  have two : ¬ (!xs.isEmpty && Builtin.List.listTooLong (xs.size + ys.size)) = true := by rw [notLongL fit, Bool.and_false]; exact Bool.false_ne_true
  rw [if_neg two]
  show wpAny _ _ (updateSeq l (· ++ ys) >>= fun _ => ret Value.none) _ _ z0
  refine wpAny_bind (wpAny_updateSeq gl rfl ?_ (by omega) (by rw [Array.size_append]; omega))
  exact wpAny_pure ⟨_, rfl, fin⟩
theorem sorted_dict {J d : Addr} {m : Nat} {Pr : Nat → Value → Prop} {OK : Heap → Prop} {ns : List Int} {R : Value → Shared → Prop} (K : PySem.W.KdlSrc pg wd "dict" J d m Pr OK) (hh : B.handled = none) (ok : OK z0.heap) (m64 : m < 64) (hI : ∀ ac : Array Value, ItemsOf Pr ac m → IntsAre ac.toList ns)
    (fin : ∀ (h1 h2 : Heap) (vs' : List Value) (ns' : List Int) (e tk : Nat), (∀ b u, z0.heap.get? b = some u → h1.get? b = some u) → (∀ b u, h1.get? b = some u → h2.get? b = some u) → h2.get? h1.objs.size = some (seqObj "list" vs'.toArray e) → IntsAre vs' ns' → ns'.Perm ns → ns'.Pairwise (· ≤ ·) → R (.ref h1.objs.size) { z0 with heap := h2, toks := tk }) :
    wpAny (model pg wd) B (call (.builtin "sorted") [.ref J]) R X0 z0 := by
  have ml : m ≤ sizeLine := Nat.le_of_lt (small1000 (by omega))
  refine Calls.call_function_entry kind_sorted plain_sorted entry_sorted (args_sorted1 _) ?_
  unfold Builtin.«sorted»
  refine wpAny_bind (m := checkCount "sorted" 1 1 _) (wpAny_pure ?_)
  refine wpAny_bind (PySem.W.kdu_collect (A := B.in1) K hh ok ml fun h1 tk ac k1 it => ?_)
  have al : ac.toList.length = m := by rw [Array.length_toList]; exact it.1
  refine wpAny_bind (wpAny_newList ?_ (by rw [al]; exact ml))
  have g1 : (h1.push (seqObj "list" ac.toList.toArray 0)).get? h1.objs.size = some (seqObj "list" ac.toList.toArray 0) := Heap.get?_push_size _ rfl
  refine wpAny_bind (wpAny_holding (wpAny_call_entry slot_list_sort ⟨_, g1, rfl⟩ entry_list_sort (list_sort_tree g1 (hI ac it) (by omega) fun out ns' a1 a2 a3 => ⟨_, rfl, ?_⟩) (args_list_sort _)))
  refine wpAny_pure ⟨_, rfl, ?_⟩
  obtain ⟨e, he⟩ := sortedHeap_at (vs := ac.toList) (out := out) g1
  refine fin h1 _ out.toList ns' e tk k1 (fun b u q => ?_) (by rw [Array.toArray_toList]; exact he) a1 a2 a3
  have lt := Heap.lt_size q
  rw [sortedHeap_old (Nat.ne_of_lt lt) (by rw [size_push']; exact Nat.lt_succ_of_lt lt)]
  exact Heap.get?_push_of_some _ q
end
theorem nd_map {α β : Type} {f : α → β} : ∀ {l : List α}, (l.map f).Nodup → l.Nodup := fun {l} h => by
  unfold List.Nodup at *
  rw [List.pairwise_map] at h
  exact h.imp fun n e => n (congrArg f e)
section
variable {X : Cx}
def rExtendT : V → List V → Hp → VK → Prop := fun x vs H Q => ∃ l b xs zs, x = .ref l ∧ vs = [.ref b] ∧ H l = some (.lst xs) ∧ H b = some (.tup zs) ∧ xs.length + zs.length ≤ sizeLine ∧ Q .non (upd H l (.lst (xs ++ zs)))
theorem mr_extendT : MtR X "list.extend" rExtendT := by
  intro pins s σ H x vs v us Q I rx rv h
  obtain ⟨l, b, xs, zs, rfl, rfl, hH, hB, hz, q⟩ := h
  cases rx
  obtain ⟨u, rfl, ru⟩ := vals1 rv
  cases ru
  obtain ⟨z, its, n, r, hl, e⟩ := I.lstM hH
  obtain ⟨its2, r2, ⟨o2, g2, c2, n2, d2⟩, hz2⟩ := I.tuple (.of hB)
  have hl2 := r2.length
  refine ext_tup e g2 c2 d2 (by simp only [List.size_toArray]; omega) ?_
  refine ⟨.non, _, I.lset (its' := its ++ its2) hH e (by simp) (r.append r2) ?_, rfl, q⟩
  rw [List.length_append]
  omega
theorem call_sortedD (hc : X.calm = true) : CallR X (.builtin "sorted") (fun xs H Q => ∃ p kvs ns, xs = [.ref p] ∧ H p = some (.dK kvs) ∧ kvs.map (fun kv => kv.1) = ns.map (fun n => (Sum.inl n : Key)) ∧ (ns.Nodup → ns.length < 64) ∧ ∀ ns' : List Int, ns'.Perm ns → ns'.Pairwise (· ≤ ·) → ns.Nodup → ∀ l, H l = none → Q (.ref l) (upd H l (.lst (ns'.map V.int)))) := by
  intro pins s σ H xs us Q I r h
  obtain ⟨p, kvs, ns, rfl, hp, hk, h64, q⟩ := h
  obtain ⟨u, rfl, rx⟩ := vals1 r
  cases rx
  obtain ⟨z, hd, vs, rel, dd⟩ := dk_of I.hok hp
  obtain ⟨ep, da⟩ := dd.dictAt
  have nd : ns.Nodup := by
    have := da.nodup
    rw [← rel.keys] at this
    exact nd_map (f := fun n => (Sum.inl n : Key)) (by rw [← hk]; exact this)
  have kl : kvs.length = ns.length := by have := congrArg List.length hk; simpa using this
  refine sorted_dict (ns := ns) (PySem.W.kdl_dict (knd := mixKind X.prog X.w) (kvs := vs) (ep := ep) hd) (I.ok.hd hc) da (by rw [← rel.length, kl]; exact h64 nd) (fun ac it => ?_) fun h1 h2 vs' ns' e tk k1 k2 g a1 a2 a3 => ?_
  · have := keys_vals rel it
    rw [show kvs.map (fun kv => kV kv.1) = ns.map V.int from by rw [show kvs.map (fun kv => kV kv.1) = (kvs.map (fun kv => kv.1)).map kV by rw [List.map_map]; rfl, hk, List.map_map]; rfl] at this
    exact intsAre_of this
  · have I1 : Inv X pins σ H { s with heap := h1, toks := tk } := I.kept (t' := tk) k1
    have hz : (ns'.map V.int).length ≤ sizeLine := by rw [List.length_map, a2.length_eq]; exact Nat.le_of_lt (small1000 (by have := h64 nd; omega))
    have I2 : Inv X pins σ (upd H h1.objs.size (.lst (ns'.map V.int))) { s with heap := h2, toks := tk } := I1.laid (t' := tk) k2 (Nat.le_refl _) (show ObjOk X.prog X.w _ _ _ (.lst (ns'.map V.int)) from ⟨hz, vs', e, vals_ints a1, g⟩)
    exact ⟨.ref h1.objs.size, _, I2, rfl, q ns' a2 a3 nd _ (I1.hok.fresh (Nat.le_refl _))⟩
def rUpdate : V → List V → Hp → VK → Prop := fun x ys H Q => ∃ a b kvs more, x = .ref a ∧ ys = [.ref b] ∧ a ≠ b ∧ H a = some (.dK kvs) ∧ H b = some (.dK more) ∧ kvs.length + more.length ≤ sizeLine ∧ Q .non (upd H a (.dK (mergeK kvs more)))
theorem mt_update : MtR X "dict.update" rUpdate := by
  intro pins s σ H x xs v us Q I rx rv h
  obtain ⟨a, b, kvs, more, rfl, rfl, ne, ha, hb, hl, q⟩ := h
  cases rx
  obtain ⟨u, rfl, ru⟩ := vals1 rv
  cases ru
  obtain ⟨z, hd, vs, rel, dd⟩ := dk_of I.hok ha
  obtain ⟨z2, hd2, vs2, rel2, dd2⟩ := dk_of I.hok hb
  refine call_meetsIn F.slot_dict_update dd.typeIs F.entry_dict_update (F.args_dict_update_2 _ _) (meets_dict_update (mixKind X.prog X.w) a b ne hd2) ⟨vs, vs2, dd, dd2, by rw [← rel.length, ← rel2.length]; exact hl, fun h' e1 e2 hs => ?_⟩
  have he : ∃ q, h'.get? a = some q := let ⟨q, _, _, hq, _⟩ := e1; ⟨q, hq⟩
  exact ⟨.non, _, d_write (t' := s.toks) I (by rw [ha]; exact True.intro) hs he (dk_new (Nat.le_trans (length_mergeK more kvs) hl) hd (KV.merge rel2 rel) e1), rfl, q⟩
theorem op_notB : OpR X (compareOp .IsNot) (fun x y H Q => ∃ a b, x = .bl a ∧ y = .bl b ∧ Q (.bl (!(a == b))) H) := by
  intro pins s σ H x y v u Q I rx ry h
  obtain ⟨a, b, rfl, rfl, q⟩ := h
  cases rx
  cases ry
  refine wpAny_isNot_plain (by cases a <;> cases b <;> rfl) ⟨.bl _, H, I, rfl, ?_⟩
  have e : ((Value.bool a == Value.bool b) : Bool) = (a == b) := by cases a <;> cases b <;> rfl
  rw [e]
  exact q
theorem call_isiLL : CallR X (.builtin "isinstance") (fun xs H Q => ∃ a ys, xs = [.ref a, .ty "list"] ∧ H a = some (.lst ys) ∧ Q (.bl true) H) := by
  intro pins s σ H xs us Q I r h
  obtain ⟨a, ys, rfl, ha, q⟩ := h
  exact call_isi pins s σ H _ us Q I r ⟨.ref a, "list", .type "list", true, rfl, .lst ha, kit_type (by decide +kernel), q⟩
theorem pa_tup {es r : List Expr} {k : Nat} {pos : Pos} {te : TE} {t : TA} (h : PE X (.Tuple es k pos) te) (hr : PA X r t) : PA X (.Tuple es k pos :: r) (tCons te t) := pa_cons h hr rfl
end
end L2
namespace My
open PySem L2 PyProof.Rows
local macro_rules | `(tactic| wp_walk using $xs:term,*) => `(tactic| simp only [rPopAt, rCount, tBMf, rStarts, rSlStrX, tKTab, rKTab, tKIn, for_eqZM, comp_eqZM, comp_eqTI, gTup, rJoinD, rJoinW, rMulS, rIxQ, rExtend, rSplit, rInN, rMulC, tDGet1, tDIn, sDPut, tDNewK, rRep, rExtendT, rUpdate, for_eqZL, comp_eqZL, rCatL, for_eqX, comp_eqX, rFind, tFR, rSlStr, rUpper, rJoin, tBM0, tBM, tyV, for_eqEL, tPop, rSlTA, comp_eqE, comp_eqEI, rNeT, rNeL, tRaise, tTry, tCallX, caughtBy, goneEnds, rCatA, rEqL, rEqT, for_eqV, for_eqZ, comp_eqZ, for_eqR3, comp_eqR3, rCatS, rSlTS, tSl, tNoPart, tPart, rSetL, gSub, rIxT, tIfS, tRet, tRetN, tNext, tVar, tC, tOp, tUn, rI, rI0, rU, rEq, rNe, tTest, tB, tNot, tAnd, tOr, tAndV, tOrV, tNotV, tIf, tCall, tCB, tNil, tCons, tChain, tLst, tTup, tAsg, gName, tDrop, tNever, rIxL, rCat, CPow, CMul, CDiv, CDivN, CDivW, L2.start, scal, for_eqL, for_eqT, for_eqR1, for_eqR2, comp_eqL, comp_eqT, comp_eqR1, cxOf_K, cxComp_K, isi_ii, isi_ib, isi_bi, isi_bb, isi_it, tyS, tApp, gTupH, gCons, gNil, rInT, rInL, rIxLH, rIxTH, flatV, upd_same, HO.lst.injEq, HO.tup.injEq, List.any_cons, List.any_nil, List.all_cons, List.all_nil, Bool.or_false, Bool.and_self, Bool.and_true, Bool.or_eq_true, beq_iff_eq, V.int.injEq, V.bl.injEq, V.str.injEq, V.ref.injEq, V.ty.injEq, List.map_cons, List.map_nil, List.length_cons, List.length_nil, List.cons_append, List.nil_append, List.getElem?_cons_zero, List.getElem?_cons_succ, Option.some.injEq, exists_eq_left', exists_eq_left, exists_and_left, List.cons.injEq, and_true, true_and, and_assoc, decide_eq_true_eq, List.set_cons_zero, List.set_cons_succ, List.replicate, Nat.sub_self, List.append_nil, Nat.add_sub_cancel, Nat.reduceAdd, Nat.reduceSub, Int.reduceLT, Int.reduceLE, Int.reduceNeg, Int.reduceSub, Int.reduceAdd, Int.reducePow, Int.reduceToNat, na2, na10, Nat.reducePow, Nat.reduceLT, if_true, if_false, Bool.not_true, Bool.not_false, Bool.false_eq_true, List.mem_cons, List.not_mem_nil, eq_self, true_or, or_true, or_false, false_or, String.reduceEq, Option.isSome_some, ne_eq, not_false_eq_true, not_true_eq_false, Bool.not_eq_true', decide_eq_false_iff_not, Bool.true_eq_false, $[$xs:term],*])
def top (i : Nat) : Stmt := PySem.Challenge.pw_sideloom_k47_calls_of_trees.main.body.getD i (.Pass ⟨0, 0, 0, 0⟩)
theorem len_map (ns : List Int) : (ns.map V.int).length = ns.length := List.length_map ..
theorem seq_with {A B : TS} {D : Ends} {σ : L2.St} {H : Hp} (J : L2.St → Hp → Prop) (h2 : ∀ σ H, J σ H → B D σ H) (h1 : ∀ R : L2.St → Hp → Prop, (∀ σ H, J σ H → R σ H) → A { D with nx := R } σ H) : tSeq A B D σ H := h1 (B D) h2
theorem cut_any (ns : List Int) (k : Nat) : cutV (ns.map V.int) none (some (k : Int)) = (ns.take k).map V.int := by
  unfold cutV; simp only [HT.sIx, len_map]; rw [if_neg (by omega), List.drop_zero, Nat.sub_zero, ← List.map_take]; congr 1
  by_cases c : k ≤ ns.length
  · congr 1; omega
  · rw [List.take_of_length_le (by omega), List.take_of_length_le (by omega)]
inductive Tr where
  | leaf (s : Option Int) | each (t : Tr) | pair (t u : Tr) | pick (t u v : Tr) | fetch (s : Int) (t : Tr) | fold (n : Int) (t : Tr)
def callsT : Tr → Int
  | .leaf _ => 0 | .each t => 1 + callsT t | .pair t u => 1 + callsT t + callsT u | .pick t u v => 1 + callsT t + callsT u + callsT v | .fetch _ t => 1 + callsT t | .fold n t => n * (1 + callsT t)
def depthT : Tr → Nat
  | .leaf _ => 0 | .each t => depthT t + 1 | .pair t u => max (depthT t) (depthT u) + 1 | .pick t u v => max (depthT t) (max (depthT u) (depthT v)) + 1 | .fetch _ t => depthT t + 1 | .fold _ t => depthT t + 1
def sizeT : Tr → Nat
  | .leaf _ => 1 | .each t => sizeT t + 1 | .pair t u => sizeT t + sizeT u + 1 | .pick t u v => sizeT t + sizeT u + sizeT v + 1 | .fetch _ t => sizeT t + 1 | .fold _ t => sizeT t + 1
def kids : Tr → List Tr
  | .leaf _ => [] | .each t => [t] | .pair t u => [t, u] | .pick t u v => [t, u, v] | .fetch _ t => [t] | .fold _ t => [t]
def isLeaf : Tr → Bool | .leaf _ => true | _ => false
def ownS : Tr → List Int | .leaf (some s) => [s] | .fetch s _ => [s] | _ => []
def storesT : Tr → List Int
  | .leaf (some s) => [s] | .leaf none => [] | .each t => storesT t | .pair t u => storesT t ++ storesT u | .pick t u v => storesT t ++ (storesT u ++ storesT v) | .fetch s t => s :: storesT t | .fold _ t => storesT t
theorem stores_kids (t : Tr) (s : Int) : s ∈ storesT t ↔ s ∈ ownS t ∨ ∃ u ∈ kids t, s ∈ storesT u := by
  cases t with
  | leaf o => cases o <;> simp [storesT, ownS, kids]
  | each t => simp [storesT, ownS, kids]
  | pair t u => simp [storesT, ownS, kids]
  | pick t u v => simp [storesT, ownS, kids]
  | fetch s t => simp [storesT, ownS, kids]
  | fold n t => simp [storesT, ownS, kids]
theorem size_kids (t : Tr) : sizeT t = ((kids t).map sizeT).sum + 1 := by
  cases t <;> simp [sizeT, kids] <;> omega
def TrAt (H : Hp) : Tr → Addr → Prop
  | .leaf none, a => ∃ (w : String) (xs : List V), H a = some (.tup (.str (Str.ofString w) :: xs)) ∧ (w = "num" ∨ w = "index")
  | .leaf (some s), a => ∃ (xs : List V), H a = some (.tup (.str "read" :: .int s :: xs))
  | .each t, a => ∃ (w : Str) (p : Addr), H a = some (.tup [.str "each", .str w, .ref p]) ∧ TrAt H t p
  | .pair t u, a => ∃ (w : Str) (p q : Addr), H a = some (.tup [.str "pair", .str w, .ref p, .ref q]) ∧ TrAt H t p ∧ TrAt H u q
  | .pick t u v, a => ∃ (p q r : Addr), H a = some (.tup [.str "pick", .ref p, .ref q, .ref r]) ∧ TrAt H t p ∧ TrAt H u q ∧ TrAt H v r
  | .fetch s t, a => ∃ (x2 x3 x4 x5 : V) (p : Addr), H a = some (.tup [.str "fetch", .int s, x2, x3, x4, x5, .ref p]) ∧ TrAt H t p
  | .fold n t, a => ∃ (w : Str) (p : Addr), H a = some (.tup [.str "fold", .str w, .int n, .ref p]) ∧ TrAt H t p ∧ 0 ≤ n ∧ n ≤ 1000000000
def SameT (H H' : Hp) : Prop := ∀ a xs, H a = some (.tup xs) → H' a = some (.tup xs)
theorem SameT.of {H H' : Hp} (s : Same H H') : SameT H H' := fun _ _ e => s _ _ e
theorem SameT.trans {H H' H2 : Hp} (s : SameT H H') (t : SameT H' H2) : SameT H H2 := fun _ _ e => t _ _ (s _ _ e)
theorem SameT.no {H : Hp} {l : Addr} {o : HO} (h : ∀ xs, H l ≠ some (.tup xs)) : SameT H (upd H l o) := fun b zs e => by
  rw [upd_ne (fun z => h zs (by rw [← z]; exact e))]; exact e
theorem TrAt.sameT {H H' : Hp} (s : SameT H H') : ∀ {t : Tr} {a : Addr}, TrAt H t a → TrAt H' t a
  | .leaf none, _, ⟨w, xs, e, z⟩ => ⟨w, xs, s _ _ e, z⟩
  | .leaf (some _), _, ⟨xs, e⟩ => ⟨xs, s _ _ e⟩
  | .each _, _, ⟨w, p, e, z⟩ => ⟨w, p, s _ _ e, z.sameT s⟩
  | .pair _ _, _, ⟨w, p, q, e, z1, z2⟩ => ⟨w, p, q, s _ _ e, z1.sameT s, z2.sameT s⟩
  | .pick _ _ _, _, ⟨p, q, r, e, z1, z2, z3⟩ => ⟨p, q, r, s _ _ e, z1.sameT s, z2.sameT s, z3.sameT s⟩
  | .fetch _ _, _, ⟨x2, x3, x4, x5, p, e, z⟩ => ⟨x2, x3, x4, x5, p, s _ _ e, z.sameT s⟩
  | .fold _ _, _, ⟨w, p, e, z, b⟩ => ⟨w, p, s _ _ e, z.sameT s, b⟩
theorem TrAt.same {H H' : Hp} (s : Same H H') {t : Tr} {a : Addr} (h : TrAt H t a) : TrAt H' t a := h.sameT (.of s)
def TrsAt (H : Hp) (ts : List Tr) (ps : List Addr) : Prop := ps.length = ts.length ∧ ∀ (i : Nat) t, ts[i]? = some t → ∃ p, ps[i]? = some p ∧ TrAt H t p
theorem TrsAt.sameT {H H' : Hp} {ts : List Tr} {ps : List Addr} (h : TrsAt H ts ps) (s : SameT H H') : TrsAt H' ts ps := ⟨h.1, fun i t e => let ⟨p, e1, l⟩ := h.2 i t e; ⟨p, e1, l.sameT s⟩⟩
theorem TrsAt.nil {H : Hp} : TrsAt H [] [] := ⟨rfl, fun i t e => by simp at e⟩
theorem TrsAt.app {H : Hp} {ts us : List Tr} {ps qs : List Addr} (h : TrsAt H ts ps) (g : TrsAt H us qs) : TrsAt H (ts ++ us) (ps ++ qs) := by
  refine ⟨by simp [h.1, g.1], fun i t e => ?_⟩
  rcases Nat.lt_or_ge i ts.length with hi | hi
  · rw [List.getElem?_append_left hi] at e
    obtain ⟨p, e1, l⟩ := h.2 i t e
    exact ⟨p, by rw [List.getElem?_append_left (by rw [h.1]; exact hi)]; exact e1, l⟩
  · rw [List.getElem?_append_right hi] at e
    obtain ⟨p, e1, l⟩ := g.2 _ t e
    exact ⟨p, by rw [List.getElem?_append_right (by rw [h.1]; exact hi), h.1]; exact e1, l⟩
theorem trs1 {H : Hp} {t : Tr} {p : Addr} (h : TrAt H t p) : TrsAt H [t] [p] := ⟨rfl, fun i u e => by
  cases i with
  | zero => cases (Option.some.inj e); exact ⟨p, rfl, h⟩
  | succ i => simp at e⟩
theorem trs_cons {H : Hp} {t : Tr} {p : Addr} {ts : List Tr} {ps : List Addr} (h : TrAt H t p) (g : TrsAt H ts ps) : TrsAt H (t :: ts) (p :: ps) := (trs1 h).app g
theorem TrsAt.snoc_inv {H : Hp} {ts : List Tr} {ps : List Addr} (h : TrsAt H ts ps) (n : ts ≠ []) : ∃ us t qs p, ts = us ++ [t] ∧ ps = qs ++ [p] ∧ TrsAt H us qs ∧ TrAt H t p := by
  have pn : ps ≠ [] := fun z => n (List.eq_nil_of_length_eq_zero (by rw [← h.1, z]; rfl))
  refine ⟨ts.dropLast, ts.getLast n, ps.dropLast, ps.getLast pn, (List.dropLast_concat_getLast n).symm, (List.dropLast_concat_getLast pn).symm, ⟨by simp [h.1], fun i t e => ?_⟩, ?_⟩
  · have il : i < ts.dropLast.length := (List.getElem?_eq_some_iff.mp e).1
    rw [List.length_dropLast] at il
    rw [List.getElem?_dropLast, if_pos il] at e
    obtain ⟨p, e1, l⟩ := h.2 i t e
    exact ⟨p, by rw [List.getElem?_dropLast, if_pos (by rw [h.1]; exact il)]; exact e1, l⟩
  · have hl : 0 < ts.length := List.length_pos_iff.mpr n
    obtain ⟨p, e1, l⟩ := h.2 (ts.length - 1) (ts.getLast n) (by rw [List.getLast_eq_getElem, List.getElem?_eq_getElem])
    have : p = ps.getLast pn := by
      rw [List.getLast_eq_getElem]
      have := (List.getElem?_eq_some_iff.mp e1).2
      rw [← this]
      congr 1
      rw [h.1]
    rw [← this]; exact l
def sumT (ts : List Tr) : Int := (ts.map callsT).sum
def sizeL (ts : List Tr) : Nat := (ts.map sizeT).sum
theorem sumT_succ {ts : List Tr} {i : Nat} {t : Tr} (h : ts[i]? = some t) : sumT (ts.take (i + 1)) = sumT (ts.take i) + callsT t := by
  unfold sumT; rw [List.take_add_one, h]; simp
def multT : Tr → Int | .fold n _ => n | _ => 1
theorem calls_kids (t : Tr) (h : isLeaf t = false) : callsT t = multT t * (1 + sumT (kids t)) := by
  cases t with
  | leaf => exact absurd h (by simp [isLeaf])
  | each t => simp only [callsT, multT, kids, sumT, List.map_cons, List.map_nil, List.sum_cons, List.sum_nil]; omega
  | pair t u => simp only [callsT, multT, kids, sumT, List.map_cons, List.map_nil, List.sum_cons, List.sum_nil]; omega
  | pick t u v => simp only [callsT, multT, kids, sumT, List.map_cons, List.map_nil, List.sum_cons, List.sum_nil]; omega
  | fetch s t => simp only [callsT, multT, kids, sumT, List.map_cons, List.map_nil, List.sum_cons, List.sum_nil]; omega
  | fold n t => simp only [callsT, multT, kids, sumT, List.map_cons, List.map_nil, List.sum_cons, List.sum_nil, Int.add_zero]
theorem leaf_calls {t : Tr} (h : isLeaf t = true) : callsT t = 0 ∧ kids t = [] := by cases t <;> first | exact ⟨rfl, rfl⟩ | exact absurd h (by simp [isLeaf])
theorem sne {a b : Str} (h : (a == b) = false) : ¬ V.str a = V.str b := fun z => by rw [V.str.inj z, beq_self_eq_true] at h; cases h
theorem kid_depth {t u : Tr} (h : u ∈ kids t) : depthT u < depthT t := by
  cases t <;> simp only [kids, List.mem_cons, List.not_mem_nil, or_false] at h <;> simp only [depthT]
  · subst h; omega
  · rcases h with rfl | rfl <;> omega
  · rcases h with rfl | rfl | rfl <;> omega
  · subst h; omega
  · subst h; omega
theorem head_own {H : Hp} {t : Tr} {a : Addr} (h : TrAt H t a) : (∃ (s : Int) (w : Str) (xs : List V), H a = some (.tup (.str w :: .int s :: xs)) ∧ (w = "read" ∨ w = "fetch") ∧ ownS t = [s]) ∨ (∃ (w : Str) (xs : List V), H a = some (.tup (.str w :: xs)) ∧ w ≠ "read" ∧ w ≠ "fetch" ∧ ownS t = []) := by
  cases t with
  | leaf o =>
    cases o with
    | none =>
      obtain ⟨w, xs, e, rfl | rfl⟩ := h
      · exact .inr ⟨_, _, e, by decide +kernel, by decide +kernel, rfl⟩
      · exact .inr ⟨_, _, e, by decide +kernel, by decide +kernel, rfl⟩
    | some s => obtain ⟨xs, e⟩ := h; exact .inl ⟨s, _, _, e, .inl rfl, rfl⟩
  | each t => obtain ⟨w, p, e, _⟩ := h; exact .inr ⟨_, _, e, by decide +kernel, by decide +kernel, rfl⟩
  | pair t u => obtain ⟨w, p, q, e, _⟩ := h; exact .inr ⟨_, _, e, by decide +kernel, by decide +kernel, rfl⟩
  | pick t u v => obtain ⟨p, q, r, e, _⟩ := h; exact .inr ⟨_, _, e, by decide +kernel, by decide +kernel, rfl⟩
  | fetch s t => obtain ⟨x2, x3, x4, x5, p, e, _⟩ := h; exact .inl ⟨s, _, _, e, .inr rfl, rfl⟩
  | fold n t => obtain ⟨w, p, e, _⟩ := h; exact .inr ⟨_, _, e, by decide +kernel, by decide +kernel, rfl⟩
theorem at_neg {xs : List V} {k : Nat} {v : V} (h : k < xs.length) (e : xs[xs.length - 1 - k]? = some v) : atI xs (-1 - (k : Int)) = some v := by
  unfold atI ixN
  rw [if_neg (by omega), if_pos (by omega)]
  show xs[(-1 - (k : Int) + (xs.length : Int)).toNat]? = some v
  rw [show (-1 - (k : Int) + (xs.length : Int)).toNat = xs.length - 1 - k by omega]
  exact e
theorem le_sum : ∀ {l : List Nat} {x : Nat}, x ∈ l → x ≤ l.sum
  | [], _, h => by simp at h
  | a :: r, x, h => by
    rw [List.sum_cons]
    rcases List.mem_cons.mp h with rfl | h
    · omega
    · have := le_sum h; omega
theorem head_leaf {H : Hp} {t : Tr} {a : Addr} (h : TrAt H t a) : ∃ (w : Str) (xs : List V), H a = some (.tup (.str w :: xs)) ∧ inV (.str w) [V.str (Str.ofString "num"), V.str (Str.ofString "index"), V.str (Str.ofString "read")] = isLeaf t := by
  cases t with
  | leaf o =>
    cases o with
    | none =>
      obtain ⟨w, xs, e, rfl | rfl⟩ := h
      · exact ⟨_, _, e, by decide +kernel⟩
      · exact ⟨_, _, e, by decide +kernel⟩
    | some s => obtain ⟨xs, e⟩ := h; exact ⟨_, _, e, show _ = true by decide +kernel⟩
  | each t => obtain ⟨w, p, e, _⟩ := h; exact ⟨_, _, e, show _ = false by decide +kernel⟩
  | pair t u => obtain ⟨w, p, q, e, _⟩ := h; exact ⟨_, _, e, show _ = false by decide +kernel⟩
  | pick t u v => obtain ⟨p, q, r, e, _⟩ := h; exact ⟨_, _, e, show _ = false by decide +kernel⟩
  | fetch s t => obtain ⟨x2, x3, x4, x5, p, e, _⟩ := h; exact ⟨_, _, e, show _ = false by decide +kernel⟩
  | fold n t => obtain ⟨w, p, e, _⟩ := h; exact ⟨_, _, e, show _ = false by decide +kernel⟩
theorem head_fold {H : Hp} {t : Tr} {a : Addr} (h : TrAt H t a) : (∃ (n : Int) (w : Str) (p : Addr), H a = some (.tup [.str "fold", .str w, .int n, .ref p]) ∧ 0 ≤ n ∧ n ≤ 1000000000 ∧ (isLeaf t = false ∧ callsT t = n * (1 + sumT (kids t)))) ∨ (∃ (w : Str) (xs : List V), H a = some (.tup (.str w :: xs)) ∧ w ≠ "fold" ∧ callsT t = (if isLeaf t = true then 0 else 1 + sumT (kids t))) := by
  have one : isLeaf t = false → multT t = 1 → callsT t = (if isLeaf t = true then 0 else 1 + sumT (kids t)) := fun h1 h2 => by rw [calls_kids t h1, h2, h1, if_neg (by decide), Int.one_mul]
  cases t with
  | leaf o =>
    refine .inr ?_
    cases o with
    | none =>
      obtain ⟨w, xs, e, rfl | rfl⟩ := h
      · exact ⟨_, _, e, by decide +kernel, rfl⟩
      · exact ⟨_, _, e, by decide +kernel, rfl⟩
    | some s => obtain ⟨xs, e⟩ := h; exact ⟨_, _, e, by decide +kernel, rfl⟩
  | each t => obtain ⟨w, p, e, _⟩ := h; exact .inr ⟨_, _, e, by decide +kernel, one rfl rfl⟩
  | pair t u => obtain ⟨w, p, q, e, _⟩ := h; exact .inr ⟨_, _, e, by decide +kernel, one rfl rfl⟩
  | pick t u v => obtain ⟨p, q, r, e, _⟩ := h; exact .inr ⟨_, _, e, by decide +kernel, one rfl rfl⟩
  | fetch s t => obtain ⟨x2, x3, x4, x5, p, e, _⟩ := h; exact .inr ⟨_, _, e, by decide +kernel, one rfl rfl⟩
  | fold n t => obtain ⟨w, p, e, _, n0, n1⟩ := h; exact .inl ⟨n, w, p, e, n0, n1, rfl, calls_kids _ rfl⟩
theorem three (s : Int) (h0 : 0 ≤ s) (h2 : s ≤ 2) : s ∈ [(0 : Int), 1, 2] := by simp; omega
theorem str_at {ws : List Str} {m : Int} (h0 : 0 ≤ m) (h1 : m < ws.length) : atI (ws.map V.str) m = some (.str (ws.getD m.toNat "")) := by
  have z := atI_nat (xs := ws.map V.str) (j := m.toNat) (v := .str (ws.getD m.toNat "")) (by rw [List.getElem?_map, List.getD_eq_getElem?_getD, List.getElem?_eq_getElem (by omega)]; rfl)
  rwa [show ((m.toNat : Nat) : Int) = m by omega] at z
def StOk (t : Tr) : Prop := ∀ s ∈ storesT t, s ∈ [(0 : Int), 1, 2]
theorem StOk.kid {t u : Tr} (h : StOk t) (m : u ∈ kids t) : StOk u := fun s hs => h s ((stores_kids t s).mpr (.inr ⟨u, m, hs⟩))
theorem sub_len : ∀ {l m : List Int}, l.Nodup → (∀ x ∈ l, x ∈ m) → l.length ≤ m.length
  | [], _, _, _ => Nat.zero_le _
  | a :: r, m, nd, h => by
    have nd' := List.nodup_cons.mp nd
    have ih := sub_len (l := r) (m := m.erase a) nd'.2 fun x hx => (List.mem_erase_of_ne (fun z => nd'.1 (by rw [← z]; exact hx))).mpr (h x (List.mem_cons_of_mem _ hx))
    have am := h a (List.mem_cons_self ..)
    rw [List.length_erase_of_mem am] at ih
    have := List.length_pos_of_mem am
    simp only [List.length_cons]; omega
def KeyS (kvs : List (Key × V)) (L : List Int) : Prop := kvs.map (fun kv => kv.1) = L.map (fun n => (Sum.inl n : Key)) ∧ L.Nodup
theorem KeyS.nil : KeyS [] [] := ⟨rfl, List.nodup_nil⟩
theorem KeyS.len {kvs : List (Key × V)} {L : List Int} (h : KeyS kvs L) : kvs.length = L.length := by have := congrArg List.length h.1; simpa using this
theorem KeyS.val {kvs : List (Key × V)} {L : List Int} (h : KeyS kvs L) (s : Int) : (kvs.any fun kv => decide (kv.1 = (Sum.inl s : Key))) = decide (s ∈ L) := by
  have e : (kvs.any fun kv => decide (kv.1 = (Sum.inl s : Key))) = (kvs.map (fun kv => kv.1)).any fun k => decide (k = (Sum.inl s : Key)) := by rw [List.any_map]; rfl
  rw [e, h.1, List.any_map]
  rw [Bool.eq_iff_iff, List.any_eq_true, decide_eq_true_eq]
  constructor
  · rintro ⟨x, hx, z⟩
    have z : (Sum.inl x : Key) = Sum.inl s := by simpa using z
    rw [← Sum.inl.inj z]; exact hx
  · intro hs; exact ⟨s, hs, by simp⟩
theorem KeyS.put {kvs : List (Key × V)} {L : List Int} (h : KeyS kvs L) (s : Int) (v : V) : ∃ L', KeyS (putK kvs (Sum.inl s : Key) v) L' ∧ ∀ x, x ∈ L' ↔ x ∈ L ∨ x = s := by
  unfold putK
  rw [h.val s]
  by_cases c : s ∈ L
  · rw [if_pos (by simpa using c)]
    refine ⟨L, ⟨?_, h.2⟩, fun x => ⟨.inl, fun z => z.elim id fun e => e ▸ c⟩⟩
    rw [← h.1, List.map_map]
    refine List.map_congr_left fun kv _ => ?_
    show (if kv.1 = _ then (kv.1, v) else kv).1 = kv.1
    split <;> rfl
  · rw [if_neg (by simpa using c)]
    refine ⟨L ++ [s], ⟨by rw [List.map_append, List.map_append, h.1]; rfl, nd_snoc h.2 c⟩, fun x => by simp⟩
theorem KeyS.merge : ∀ {more : List (Key × V)} {M : List Int} {kvs : List (Key × V)} {L : List Int}, more.map (fun kv => kv.1) = M.map (fun n => (Sum.inl n : Key)) → KeyS kvs L → ∃ L', KeyS (mergeK kvs more) L' ∧ ∀ x, x ∈ L' ↔ x ∈ L ∨ x ∈ M
  | [], [], _, L, _, h => ⟨L, h, fun x => by simp⟩
  | [], _ :: _, _, _, e, _ => by simp at e
  | _ :: _, [], _, _, e, _ => by simp at e
  | kv :: more, m :: M, kvs, L, e, h => by
    rw [List.map_cons, List.map_cons] at e
    injection e with e1 e2
    obtain ⟨L1, h1, m1⟩ := h.put m kv.2
    obtain ⟨L2, h2, m2⟩ := KeyS.merge (more := more) (M := M) e2 h1
    refine ⟨L2, ?_, fun x => by rw [m2, m1]; simp [or_assoc]⟩
    show KeyS (more.foldl (fun acc kv => putK acc kv.1 kv.2) (putK kvs kv.1 kv.2)) L2
    rw [show kv.1 = (Sum.inl m : Key) from e1]
    exact h2
theorem sort_eq : ∀ {a b : List Int}, a.Pairwise (· < ·) → b.Pairwise (· < ·) → (∀ x, x ∈ a ↔ x ∈ b) → a = b
  | [], [], _, _, _ => rfl
  | [], y :: b, _, _, h => by have := (h y).mpr (List.mem_cons_self ..); simp at this
  | x :: a, [], _, _, h => by have := (h x).mp (List.mem_cons_self ..); simp at this
  | x :: a, y :: b, ha, hb, h => by
    have ha' := List.pairwise_cons.mp ha
    have hb' := List.pairwise_cons.mp hb
    have xy : x = y := by
      rcases List.mem_cons.mp ((h x).mp (List.mem_cons_self ..)) with e | e
      · exact e
      · rcases List.mem_cons.mp ((h y).mpr (List.mem_cons_self ..)) with e' | e'
        · exact e'.symm
        · have := hb'.1 x e; have := ha'.1 y e'; omega
    subst xy
    rw [sort_eq ha'.2 hb'.2 fun z => ⟨fun hz => (List.mem_cons.mp ((h z).mp (List.mem_cons_of_mem _ hz))).elim (fun e => by have := ha'.1 z hz; omega) id, fun hz => (List.mem_cons.mp ((h z).mpr (List.mem_cons_of_mem _ hz))).elim (fun e => by have := hb'.1 z hz; omega) id⟩]
theorem lt_of_le {a : List Int} (h : a.Pairwise (· ≤ ·)) (n : a.Nodup) : a.Pairwise (· < ·) := by
  unfold List.Nodup at n
  exact (h.and n).imp fun ⟨x, y⟩ => by omega
theorem eqVs_self : ∀ (L : List Int), eqVs (L.map V.int) (L.map V.int) = true
  | [] => rfl
  | n :: L => by simp [eqVs, eqV, eqVs_self L]
def PrAt (H : Hp) (f : Tr × Int) (p : Addr) : Prop := ∃ q, H p = some (.tup [.ref q, .int f.2]) ∧ TrAt H f.1 q
theorem PrAt.sameT {H H' : Hp} (s : SameT H H') {f : Tr × Int} {p : Addr} (h : PrAt H f p) : PrAt H' f p := let ⟨q, e, t⟩ := h; ⟨q, s _ _ e, t.sameT s⟩
def FsAt (H : Hp) (fs : List (Tr × Int)) (ps : List Addr) : Prop := ps.length = fs.length ∧ ∀ (i : Nat) f, fs[i]? = some f → ∃ p, ps[i]? = some p ∧ PrAt H f p
theorem FsAt.sameT {H H' : Hp} {fs : List (Tr × Int)} {ps : List Addr} (h : FsAt H fs ps) (s : SameT H H') : FsAt H' fs ps := ⟨h.1, fun i t e => let ⟨p, e1, l⟩ := h.2 i t e; ⟨p, e1, l.sameT s⟩⟩
theorem FsAt.snoc {H : Hp} {ts : List (Tr × Int)} {ps : List Addr} {f : Tr × Int} {q : Addr} (h : FsAt H ts ps) (g : PrAt H f q) : FsAt H (ts ++ [f]) (ps ++ [q]) := by
  refine ⟨by simp [h.1], fun i t e => ?_⟩
  rcases Nat.lt_trichotomy i ts.length with hi | hi | hi
  · rw [List.getElem?_append_left hi] at e
    obtain ⟨p, e1, l⟩ := h.2 i t e
    exact ⟨p, by rw [List.getElem?_append_left (by rw [h.1]; exact hi)]; exact e1, l⟩
  · subst hi
    rw [List.getElem?_append_right (Nat.le_refl _), Nat.sub_self] at e
    cases (Option.some.inj e)
    exact ⟨q, by rw [List.getElem?_append_right (by rw [h.1]; exact Nat.le_refl _), h.1, Nat.sub_self]; rfl, g⟩
  · rw [List.getElem?_eq_none (by simp; omega)] at e; cases e
theorem FsAt.pop {H : Hp} {fs : List (Tr × Int)} {ps : List Addr} (h : FsAt H fs ps) (n : 1 ≤ fs.length) : ∃ gs f qs p, fs = gs ++ [f] ∧ ps = qs ++ [p] ∧ FsAt H gs qs ∧ PrAt H f p := by
  have fn : fs ≠ [] := fun z => by rw [z] at n; simp at n
  have pn : ps ≠ [] := fun z => fn (List.eq_nil_of_length_eq_zero (by rw [← h.1, z]; rfl))
  refine ⟨fs.dropLast, fs.getLast fn, ps.dropLast, ps.getLast pn, (List.dropLast_concat_getLast fn).symm, (List.dropLast_concat_getLast pn).symm, ⟨by simp [h.1], fun i t e => ?_⟩, ?_⟩
  · have il : i < fs.dropLast.length := (List.getElem?_eq_some_iff.mp e).1
    rw [List.length_dropLast] at il
    rw [List.getElem?_dropLast, if_pos il] at e
    obtain ⟨p, e1, l⟩ := h.2 i t e
    exact ⟨p, by rw [List.getElem?_dropLast, if_pos (by rw [h.1]; exact il)]; exact e1, l⟩
  · obtain ⟨p, e1, l⟩ := h.2 (fs.length - 1) (fs.getLast fn) (by rw [List.getLast_eq_getElem, List.getElem?_eq_getElem])
    have : p = ps.getLast pn := by
      rw [List.getLast_eq_getElem]
      have := (List.getElem?_eq_some_iff.mp e1).2
      rw [← this]
      congr 1
      rw [h.1]
    rw [← this]; exact l
def GdF (n : Nat) (f : Tr × Int) : Prop := sizeT f.1 ≤ n ∧ StOk f.1 ∧ 0 ≤ f.2 ∧ f.2 ≤ 2
def totF (fs : List (Tr × Int)) : Nat := (fs.map fun f => sizeT f.1).sum
theorem tot_snoc (fs : List (Tr × Int)) (f : Tr × Int) : totF (fs ++ [f]) = totF fs + sizeT f.1 := by simp [totF]
theorem depth_size (t : Tr) : depthT t < sizeT t := by
  induction t with
  | leaf o => simp [depthT, sizeT]
  | each t ih => simp only [depthT, sizeT]; omega
  | pair t u ih1 ih2 => simp only [depthT, sizeT]; omega
  | pick t u v ih1 ih2 ih3 => simp only [depthT, sizeT]; omega
  | fetch s t ih => simp only [depthT, sizeT]; omega
  | fold n t ih => simp only [depthT, sizeT]; omega
theorem GdF.mono {n m : Nat} {f : Tr × Int} (h : GdF n f) (l : n ≤ m) : GdF m f := ⟨Nat.le_trans h.1 l, h.2⟩
def SameB (l : Addr) (H H' : Hp) : Prop := ∀ a o, a ≠ l → H a = some o → H' a = some o
theorem last_at {α : Type} {qs : List α} {p : α} : (qs ++ [p])[(qs ++ [p]).length - 1]? = some p := by simp
theorem pe0trees {X : Cx} : PE X (.List [(.Tuple [(.Tuple [(.Constant (.str "read") 0 ⟨74, 15, 74, 21⟩), (.Constant (.int 1) 0 ⟨74, 23, 74, 24⟩), (.Constant (.int 16) 0 ⟨74, 26, 74, 28⟩), (.Tuple [(.Constant (.int 1) 0 ⟨74, 31, 74, 32⟩), (.UnaryOp .USub (.Constant (.int 1) 0 ⟨74, 35, 74, 36⟩) ⟨74, 34, 74, 36⟩), (.Constant (.int 2) 0 ⟨74, 38, 74, 39⟩), (.Constant (.int 1) 0 ⟨74, 41, 74, 42⟩), (.Constant (.int 1) 0 ⟨74, 44, 74, 45⟩)] 0 ⟨74, 30, 74, 46⟩)] 0 ⟨74, 14, 74, 47⟩), (.Constant (.int 2) 0 ⟨74, 49, 74, 50⟩)] 0 ⟨74, 13, 74, 51⟩)] ⟨74, 12, 74, 52⟩) (tLst (tCons (tTup (tCons (tTup (tCons (tC (V.str "read")) (tCons (tC (V.int 1)) (tCons (tC (V.int 16)) (tCons (tTup (tCons (tC (V.int 1)) (tCons (tUn (rU fun i => V.int (-i)) (tC (V.int 1))) (tCons (tC (V.int 2)) (tCons (tC (V.int 1)) (tCons (tC (V.int 1)) tNil)))))) tNil))))) (tCons (tC (V.int 2)) tNil))) tNil)) := by
  refine @pe_lst _ _ _ _ ?_
  refine @pa_tup _ _ _ _ _ _ _ ?_ pa_nil
  refine @pe_tup _ _ _ _ _ ?_
  refine @pa_tup _ _ _ _ _ _ _ ?_ (pa_cons pe_int pa_nil)
  refine @pe_tup _ _ _ _ _ ?_
  refine @pa_cons _ _ _ _ _ pe_str ?_ rfl
  refine @pa_cons _ _ _ _ _ pe_int ?_ rfl
  refine @pa_cons _ _ _ _ _ pe_int ?_ rfl
  refine @pa_tup _ _ _ _ _ _ _ ?_ pa_nil
  exact pe_tup (pa_cons pe_int (pa_cons (pe_un un_neg pe_int) (pa_cons pe_int (pa_cons pe_int (pa_cons pe_int pa_nil)))))
abbrev sisfree : Stmt := top 1
def spisfree : Sp := fun vs H Q _ => ∃ (a : Addr) (t : Tr), vs = [.ref a] ∧ TrAt H t a ∧ ∀ H', Same H H' → Q (.bl (isLeaf t)) H'
section
variable {P : Program} {w : World} {K : PySem.W.Frag} {mg : Str → Option Value} {base : Heap} {f : Addr} {fd : FuncData}
theorem scisfree : FnScope ["tree"] ["tree"] (defScope sisfree) := ⟨rfl, rfl, rfl, by decide +kernel, rfl, by decide +kernel, by decide +kernel⟩
theorem okisfree (F : Fun K "is_free" "is_free" sisfree f fd) : FnOk P w K mg base CX0 (1) f fd ["tree"] (spisfree) := by
  have sc := scisfree
  refine F.ok sc (fun vs H Q E h => ?_) (fun cdv A outer s H vs Q E hr h => ?_)
  · obtain ⟨a, t, rfl, _⟩ := h; rfl
  obtain ⟨a, t, rfl, ht, q⟩ := h
  refine ⟨_, (pss_one (ps_ret (pe_cmpR op_inT (pe_ix ix_tupH (pv 0) pe_int (fun _ _ => rfl)) (pe_tup (pa_cons pe_str (pa_cons pe_str (pa_cons pe_str pa_nil)))) rfl))), ?_⟩
  wp_walk using tSeq, inV, eqV
  have fin : ∀ (w : Str) (b : Bool) (xs : List V), H a = some (.tup (.str w :: xs)) → isLeaf t = b → (("num" : Str) == w || (("index" : Str) == w || ("read" : Str) == w)) = b →
     (∃ x, H a = some (HO.tup x) ∧ ∃ x_1, atI x 0 = some x_1 ∧ 3 ≤ sizeLine ∧ ∀ (p : Addr), H p = none → (match x_1 with | V.non => true | V.bl b => true | V.int i => true | V.str x => true | x => false) = true ∧
       Q (V.bl (inV x_1 [V.str (Str.ofString "num"), V.str (Str.ofString "index"), V.str (Str.ofString "read")])) (upd H p (HO.tup [V.str (Str.ofString "num"), V.str (Str.ofString "index"), V.str (Str.ofString "read")]))) := by
    intro w b xs e h1 h2
    refine ⟨_, e, _, atI_nat (j := 0) rfl, small (by decide), fun p hp => ⟨rfl, ?_⟩⟩
    have z : inV (V.str w) [V.str (Str.ofString "num"), V.str (Str.ofString "index"), V.str (Str.ofString "read")] = isLeaf t := by
      rw [h1, ← h2]
      simp only [inV, List.any_cons, List.any_nil, Bool.or_false, eqV]
    rw [z]
    exact q _ (same_new hp _)
  simp only [inV, List.any_cons, List.any_nil, Bool.or_false, eqV] at fin
  cases t with
  | leaf o =>
    cases o with
    | none =>
      obtain ⟨w, xs, e, rfl | rfl⟩ := ht
      · exact fin _ true _ e rfl (by decide +kernel)
      · exact fin _ true _ e rfl (by decide +kernel)
    | some s =>
      obtain ⟨xs, e⟩ := ht
      exact fin _ true _ e rfl (by decide +kernel)
  | each t => obtain ⟨w, p, e, _⟩ := ht; exact fin _ false _ e rfl (by decide +kernel)
  | pair t u => obtain ⟨w, p, r, e, _⟩ := ht; exact fin _ false _ e rfl (by decide +kernel)
  | pick t u v => obtain ⟨p, r, r2, e, _⟩ := ht; exact fin _ false _ e rfl (by decide +kernel)
  | fetch s t => obtain ⟨x2, x3, x4, x5, p, e, _⟩ := ht; exact fin _ false _ e rfl (by decide +kernel)
  | fold n t => obtain ⟨w, p, e, _⟩ := ht; exact fin _ false _ e rfl (by decide +kernel)
end
abbrev sbranchesof : Stmt := top 2
def spbranchesof : Sp := fun vs H Q _ => ∃ (a : Addr) (t : Tr), vs = [.ref a] ∧ TrAt H t a ∧ ∀ H' p ps, Same H H' → H' p = some (.tup (ps.map V.ref)) → TrsAt H' (kids t) ps → Q (.ref p) H'
section
variable {P : Program} {w : World} {K : PySem.W.Frag} {mg : Str → Option Value} {base : Heap} {f : Addr} {fd : FuncData}
theorem scbranchesof : FnScope ["tree", "form"] ["tree"] (defScope sbranchesof) := ⟨rfl, rfl, rfl, by decide +kernel, rfl, by decide +kernel, by decide +kernel⟩
theorem okbranchesof (F : Fun K "branches_of" "branches_of" sbranchesof f fd) : FnOk P w K mg base CX0 (1) f fd ["tree"] (spbranchesof) := by
  have sc := scbranchesof
  refine F.ok sc (fun vs H Q E h => ?_) (fun cdv A outer s H vs Q E hr h => ?_)
  · obtain ⟨a, t, rfl, _⟩ := h; rfl
  obtain ⟨a, t, rfl, ht, q⟩ := h
  refine ⟨_, (pss_cons (ps_set (i := 1) sc.nd rfl (by first | exact Or.inl rfl | exact Or.inr rfl) (pe_ix ix_tupH (pv 0) pe_int (fun _ _ => rfl))) (pss_cons (ps_if (pt_cmpR op_eq (pv 1) pe_str (nomark _)) (pss_one (ps_ret (pe_slice sl_tupA (pv 0) (po_some pe_int) po_none))) pss_nil) (pss_cons (ps_if (pt_cmpR op_inT (pv 1) (pe_tup (pa_cons pe_str (pa_cons pe_str pa_nil))) rfl) (pss_one (ps_ret (pe_slice sl_tupA (pv 0) (po_some pe_int) po_none))) pss_nil) (pss_cons (ps_if (pt_cmpR op_eq (pv 1) pe_str (nomark _)) (pss_one (ps_ret (pe_slice sl_tupA (pv 0) (po_some pe_int) po_none))) pss_nil) (pss_cons (ps_if (pt_cmpR op_eq (pv 1) pe_str (nomark _)) (pss_one (ps_ret (pe_slice sl_tupA (pv 0) (po_some pe_int) po_none))) pss_nil) (pss_one (ps_ret (pe_tup pa_nil)))))))), ?_⟩
  wp_walk using tSeq, inV, eqV
  cases t with
  | leaf o =>
    cases o with
    | none =>
      obtain ⟨w, xs, e, rfl | rfl⟩ := ht
      · refine ⟨_, e, _, atI_nat (j := 0) rfl, rfl, ?_⟩
        rw [if_neg (sne (by decide +kernel))]
        refine ⟨small (by decide), fun p0 hp0 => ⟨rfl, ?_⟩⟩
        rw [if_neg (by decide +kernel)]
        refine ⟨rfl, ?_⟩
        rw [if_neg (sne (by decide +kernel))]
        refine ⟨rfl, ?_⟩
        rw [if_neg (sne (by decide +kernel))]
        exact ⟨small (by decide), fun p1 hp1 => q _ _ [] ((same_new hp0 _).trans (same_new hp1 _)) upd_same TrsAt.nil⟩
      · refine ⟨_, e, _, atI_nat (j := 0) rfl, rfl, ?_⟩
        rw [if_neg (sne (by decide +kernel))]
        refine ⟨small (by decide), fun p0 hp0 => ⟨rfl, ?_⟩⟩
        rw [if_neg (by decide +kernel)]
        refine ⟨rfl, ?_⟩
        rw [if_neg (sne (by decide +kernel))]
        refine ⟨rfl, ?_⟩
        rw [if_neg (sne (by decide +kernel))]
        exact ⟨small (by decide), fun p1 hp1 => q _ _ [] ((same_new hp0 _).trans (same_new hp1 _)) upd_same TrsAt.nil⟩
    | some s =>
      obtain ⟨xs, e⟩ := ht
      refine ⟨_, e, _, atI_nat (j := 0) rfl, rfl, ?_⟩
      rw [if_neg (sne (by decide +kernel))]
      refine ⟨small (by decide), fun p0 hp0 => ⟨rfl, ?_⟩⟩
      rw [if_neg (by decide +kernel)]
      refine ⟨rfl, ?_⟩
      rw [if_neg (sne (by decide +kernel))]
      refine ⟨rfl, ?_⟩
      rw [if_neg (sne (by decide +kernel))]
      exact ⟨small (by decide), fun p1 hp1 => q _ _ [] ((same_new hp0 _).trans (same_new hp1 _)) upd_same TrsAt.nil⟩
  | each t =>
    obtain ⟨w, p, e, ht⟩ := ht
    refine ⟨_, e, _, atI_nat (j := 0) rfl, rfl, ?_⟩
    rw [if_neg (sne (by decide +kernel))]
    refine ⟨small (by decide), fun p0 hp0 => ⟨rfl, ?_⟩⟩
    rw [if_pos (.inl (by decide +kernel))]
    refine ⟨_, same_new hp0 _ _ _ e, fun r H1 s1 h1 => q _ _ [p] ((same_new hp0 _).trans s1) (by rw [h1]; rfl) (trs1 (ht.same ((same_new hp0 _).trans s1)))⟩
  | pair t u =>
    obtain ⟨w, p, p2, e, ht, hu⟩ := ht
    refine ⟨_, e, _, atI_nat (j := 0) rfl, rfl, ?_⟩
    rw [if_neg (sne (by decide +kernel))]
    refine ⟨small (by decide), fun p0 hp0 => ⟨rfl, ?_⟩⟩
    rw [if_pos (.inr (by decide +kernel))]
    refine ⟨_, same_new hp0 _ _ _ e, fun r H1 s1 h1 => q _ _ [p, p2] ((same_new hp0 _).trans s1) (by rw [h1]; rfl) (trs_cons (ht.same ((same_new hp0 _).trans s1)) (trs1 (hu.same ((same_new hp0 _).trans s1))))⟩
  | pick t u v =>
    obtain ⟨p, p2, p3, e, ht, hu, hv⟩ := ht
    refine ⟨_, e, _, atI_nat (j := 0) rfl, rfl, ?_⟩
    rw [if_pos rfl]
    refine ⟨_, e, fun r H1 s1 h1 => q _ _ [p, p2, p3] s1 (by rw [h1]; rfl) (trs_cons (ht.same s1) (trs_cons (hu.same s1) (trs1 (hv.same s1))))⟩
  | fold n t =>
    obtain ⟨w, p, e, ht, _⟩ := ht
    refine ⟨_, e, _, atI_nat (j := 0) rfl, rfl, ?_⟩
    rw [if_neg (sne (by decide +kernel))]
    refine ⟨small (by decide), fun p0 hp0 => ⟨rfl, ?_⟩⟩
    rw [if_neg (by decide +kernel)]
    refine ⟨rfl, ?_⟩
    rw [if_pos rfl]
    refine ⟨_, same_new hp0 _ _ _ e, fun r H1 s1 h1 => q _ _ [p] ((same_new hp0 _).trans s1) (by rw [h1]; rfl) (trs1 (ht.same ((same_new hp0 _).trans s1)))⟩
  | fetch s t =>
    obtain ⟨x2, x3, x4, x5, p, e, ht⟩ := ht
    refine ⟨_, e, _, atI_nat (j := 0) rfl, rfl, ?_⟩
    rw [if_neg (sne (by decide +kernel))]
    refine ⟨small (by decide), fun p0 hp0 => ⟨rfl, ?_⟩⟩
    rw [if_neg (by decide +kernel)]
    refine ⟨rfl, ?_⟩
    rw [if_neg (sne (by decide +kernel))]
    refine ⟨rfl, ?_⟩
    rw [if_pos rfl]
    refine ⟨_, same_new hp0 _ _ _ e, fun r H1 s1 h1 => q _ _ [p] ((same_new hp0 _).trans s1) (by rw [h1]; rfl) (trs1 (ht.same ((same_new hp0 _).trans s1)))⟩
end
abbrev scallsof : Stmt := top 3
def spcallsof : Nat → Sp := fun d => match d with | 0 => fun _ _ _ _ => False | d + 1 => fun vs H Q _ => ∃ (a : Addr) (t : Tr), vs = [.ref a] ∧ TrAt H t a ∧ depthT t ≤ d ∧ ∀ H', Same H H' → Q (.int (callsT t)) H'
section
variable {P : Program} {w : World} {K : PySem.W.Frag} {mg : Str → Option Value} {base : Heap} {f : Addr} {fd : FuncData}
theorem sccallsof : FnScope ["tree", "calls", "branch"] ["tree"] (defScope scallsof) := ⟨rfl, rfl, rfl, by decide +kernel, rfl, by decide +kernel, by decide +kernel⟩
theorem okcallsof (F : Fun K "calls_of" "calls_of" scallsof f fd) {d0 : Nat} (cisfree : Callee P w K mg base CX0 (d0 + 1) "is_free" ["tree"] spisfree) (cbranchesof : Callee P w K mg base CX0 (d0 + 1) "branches_of" ["tree"] spbranchesof) (ccallsof : Callee P w K mg base CX0 (d0 + 1) "calls_of" ["tree"] (spcallsof d0)) : FnOk P w K mg base CX0 (d0 + 2) f fd ["tree"] (spcallsof (d0 + 1)) := by
  have sc := sccallsof
  refine F.ok sc (fun vs H Q E h => ?_) (fun cdv A outer s H vs Q E hr h => ?_)
  · obtain ⟨a, t, rfl, _⟩ := h; rfl
  obtain ⟨a, t, rfl, ht, hd, q⟩ := h
  refine ⟨_, (pss_cons (ps_if (pt_val (pe_cal cisfree hr (by rfl) pass0 (pa_cons (pv 0) pa_nil))) (pss_one (ps_ret pe_int)) pss_nil) (pss_cons (ps_set (i := 1) sc.nd rfl (by first | exact Or.inl rfl | exact Or.inr rfl) pe_int) (pss_cons (ps_for PassesOwn.never rfl (pi_tup (pe_cal cbranchesof hr (by rfl) pass0 (pa_cons (pv 0) pa_nil))) (pg_name (i := 2) sc.nd rfl (Or.inl rfl)) (pss_one (ps_set (i := 1) sc.nd rfl (by first | exact Or.inl rfl | exact Or.inr rfl) (pe_op op_add (pv 1) (pe_cal ccallsof hr (by rfl) pass0 (pa_cons (pv 2) pa_nil)))))) (pss_one (ps_ret (pe_ifExp (pt_cmpR op_eq (pe_ix ix_tupH (pv 0) pe_int (fun _ _ => rfl)) pe_str (nomark _)) (pe_op op_mul (pe_ix ix_tupH (pv 0) pe_int (fun _ _ => rfl)) (pv 1)) (pv 1))))))), ?_⟩
  wp_walk using tSeq, inV, eqV, spisfree, spbranchesof
  refine ⟨t, ht, fun H1 s1 => ?_⟩
  cases hl : isLeaf t with
  | true =>
    rw [if_pos rfl]
    have e : callsT t = 0 := by cases t <;> first | rfl | exact absurd hl (by simp [isLeaf])
    rw [e] at q
    exact q _ s1
  | false =>
    rw [if_neg (by decide)]
    refine ⟨t, ht.same s1, fun H2 p ps s2 hp ks => ?_⟩
    have s12 := s1.trans s2
    refine LoopT.mk (xs := ps.map V.ref) (.of hp) (fun i σ H' => Same H2 H' ∧ ∃ y, σ = [some (.ref a), some (.int (1 + sumT ((kids t).take i))), y]) ⟨Same.refl _, _, rfl⟩ (fun i σ H' _ h => .of (h.1 _ _ hp)) (fun i x σ H' e h => ?_) (fun σ H' h => ?_)
    · obtain ⟨h1, y, rfl⟩ := h
      have il : i < ps.length := by have := (List.getElem?_eq_some_iff.mp e).1; rwa [List.length_map] at this
      have ek : (kids t)[i]? = some ((kids t)[i]'(by rw [← ks.1]; exact il)) := List.getElem?_eq_getElem _
      generalize (kids t)[i]'(by rw [← ks.1]; exact il) = u at ek
      obtain ⟨pu, epu, hu⟩ := ks.2 i u ek
      have ex : x = V.ref pu := by rw [List.getElem?_map, epu] at e; exact (Option.some.inj e).symm
      subst ex
      have du := kid_depth (List.mem_of_getElem? ek)
      wp_walk using tSeq, inV, eqV
      cases d0 with
      | zero => exact absurd hd (by omega)
      | succ d =>
        simp only [spcallsof]
        refine ⟨pu, u, rfl, hu.same h1, by omega, fun H3 s3 => ?_⟩
        rw [sumT_succ ek, ← Int.add_assoc]
        exact ⟨_, rfl, h1.trans s3, rfl, _, rfl⟩
    · obtain ⟨h1, y, rfl⟩ := h
      rw [List.length_map, show ps.length = (kids t).length from ks.1, List.take_length]
      have s02 := s12.trans h1
      have q2 := q _ s02
      rw [calls_kids t hl] at q2
      wp_walk using tSeq, inV, eqV
      cases t with
      | leaf => exact absurd hl (by simp [isLeaf])
      | each t => obtain ⟨w, p, e, _⟩ := ht.same s02; refine ⟨_, e, _, atI_nat (j := 0) rfl, rfl, ?_⟩; rw [if_neg (sne (by decide +kernel))]; simpa only [multT, Int.one_mul] using q2
      | pair t u => obtain ⟨w, p, r, e, _⟩ := ht.same s02; refine ⟨_, e, _, atI_nat (j := 0) rfl, rfl, ?_⟩; rw [if_neg (sne (by decide +kernel))]; simpa only [multT, Int.one_mul] using q2
      | pick t u v => obtain ⟨p, r, r2, e, _⟩ := ht.same s02; refine ⟨_, e, _, atI_nat (j := 0) rfl, rfl, ?_⟩; rw [if_neg (sne (by decide +kernel))]; simpa only [multT, Int.one_mul] using q2
      | fetch s t => obtain ⟨x2, x3, x4, x5, p, e, _⟩ := ht.same s02; refine ⟨_, e, _, atI_nat (j := 0) rfl, rfl, ?_⟩; rw [if_neg (sne (by decide +kernel))]; simpa only [multT, Int.one_mul] using q2
      | fold n t =>
        obtain ⟨w, p, e, _, n0, n1⟩ := ht.same s02
        refine ⟨_, e, _, atI_nat (j := 0) rfl, rfl, ?_⟩
        rw [if_pos rfl]
        exact ⟨_, e, _, atI_nat (j := 2) rfl, _, rfl, .inl ⟨by omega, by omega⟩, q2⟩
theorem okcallsofA (F : Fun K "calls_of" "calls_of" scallsof f fd) (cisfree : Callee P w K mg base CX0 1 "is_free" ["tree"] spisfree) (cbranchesof : Callee P w K mg base CX0 1 "branches_of" ["tree"] spbranchesof) (m : mg "calls_of" = some (.ref f)) (b : Binds K fd ["tree"] []) : ∀ d0 : Nat, FnOk P w K mg base CX0 (d0 + 1) f fd ["tree"] (spcallsof d0)
  | 0 => ⟨fun _ _ _ _ h => h.elim, fun _ _ _ _ _ _ _ _ _ _ _ _ _ h => h.elim⟩
  | d0 + 1 => (okcallsof F (cisfree.mono (Nat.le_add_left _ _)) (cbranchesof.mono (Nat.le_add_left _ _)) (Callee.mk' F m b (okcallsofA F cisfree cbranchesof m b d0))).mono (by omega)
end
abbrev sstoresof : Stmt := top 4
def spstoresof : Sp := fun vs H Q _ => ∃ (a : Addr) (t : Tr), vs = [.ref a] ∧ TrAt H t a ∧ StOk t ∧ sizeT t ≤ 900 ∧ ∀ H' p (L : List Int), Same H H' → H' p = some (.lst (L.map V.int)) → L.Pairwise (· < ·) → (∀ s, s ∈ L ↔ s ∈ storesT t) → Q (.ref p) H'
section
variable {P : Program} {w : World} {K : PySem.W.Frag} {mg : Str → Option Value} {base : Heap} {f : Addr} {fd : FuncData}
theorem scstoresof : FnScope ["tree", "found", "waiting", "part"] ["tree"] (defScope sstoresof) := ⟨rfl, rfl, rfl, by decide +kernel, rfl, by decide +kernel, by decide +kernel⟩
theorem okstoresof (F : Fun K "stores_of" "stores_of" sstoresof f fd) (cbranchesof : Callee P w K mg base CX0 (1) "branches_of" ["tree"] spbranchesof) (zlen : mg "len" = none) (zsorted : mg "sorted" = none) : FnOk P w K mg base CX0 (2) f fd ["tree"] (spstoresof) := by
  have sc := scstoresof
  refine F.ok sc (fun vs H Q E h => ?_) (fun cdv A outer s H vs Q E hr h => ?_)
  · obtain ⟨a, t, rfl, _⟩ := h; rfl
  obtain ⟨a, t, rfl, ht, so, sz, q⟩ := h
  refine ⟨_, (pss_cons (ps_set (i := 1) sc.nd rfl (by first | exact Or.inl rfl | exact Or.inr rfl) pe_dnewK) (pss_cons (ps_set (i := 2) sc.nd rfl (by first | exact Or.inl rfl | exact Or.inr rfl) (pe_lst (pa_cons (pv 0) pa_nil))) (pss_cons (ps_while PassesOwn.never (pt_cmpR op_gt (pe_callB call_len_seq (by rfl) zlen PySem.boot_len (pa_cons (pv 2) pa_nil)) pe_int (nomark _)) (pss_cons (ps_set (i := 3) sc.nd rfl (by first | exact Or.inl rfl | exact Or.inr rfl) (pe_pop (pv 2))) (pss_cons (ps_if (pt_cmpR op_inT (pe_ix ix_tupH (pv 3) pe_int (fun _ _ => rfl)) (pe_tup (pa_cons pe_str (pa_cons pe_str pa_nil))) rfl) (pss_one (ps_dput (hu1 hr) (pv 1) (pe_ix ix_tupH (pv 3) pe_int (fun _ _ => rfl)) pe_bl rfl)) pss_nil) (pss_one (ps_expr (pe_bm PySem.F.plainAttrs_list PySem.F.slot_list_extend PySem.F.type_list_extend mr_extendT (pv 2) (pa_cons (pe_cal cbranchesof hr (by rfl) pass0 (pa_cons (pv 3) pa_nil)) pa_nil))))))) (pss_one (ps_ret (pe_callB (call_sortedD rfl) (by rfl) zsorted boot_sorted (pa_cons (pv 1) pa_nil))))))), ?_⟩
  simp only [L2.start, List.length_cons, List.length_nil, List.replicate, List.cons_append, List.nil_append, Nat.reduceSub, Nat.reduceAdd, List.map_cons, List.map_nil]
  refine seq_with (fun σ H1 => ∃ fa, σ = [some (.ref a), some (.ref fa), none, none] ∧ Same H H1 ∧ H fa = none ∧ H1 fa = some (.dK [])) ?_ (fun R hR => ?_)
  rotate_left
  · wp_walk using tSeq, inV, eqV
    exact fun p hp => hR _ _ ⟨p, rfl, same_new hp _, hp, upd_same⟩
  rintro σ1 H1 ⟨fa, rfl, s1, fa0, h1⟩
  refine seq_with (fun σ H2 => ∃ wa, σ = [some (.ref a), some (.ref fa), some (.ref wa), none] ∧ Same H1 H2 ∧ H1 wa = none ∧ H2 wa = some (.lst [.ref a])) ?_ (fun R hR => ?_)
  rotate_left
  · wp_walk using tSeq, inV, eqV
    exact ⟨small (by decide), fun p hp => hR _ _ ⟨p, rfl, same_new hp _, hp, upd_same⟩⟩
  rintro σ2 H2 ⟨wa, rfl, s2, wa0, h2⟩
  have wa1 : H wa = none := s1.free wa0
  have fw : fa ≠ wa := fun z => by rw [z, wa0] at h1; cases h1
  have same : ∀ {G : Hp} {b : Addr}, H b = none → Same H G → ∀ o, Same H (upd G b o) := fun {G b} b0 sg o c u e => by rw [upd_ne (fun z => by rw [z, b0] at e; cases e)]; exact sg _ _ e
  refine seq_with (fun σ G => ∃ (y3 : Option V) (kvs : List (Key × V)) (L : List Int), σ = [some (.ref a), some (.ref fa), some (.ref wa), y3] ∧ Same H G ∧ G fa = some (.dK kvs) ∧ KeyS kvs L ∧ ∀ s, s ∈ L ↔ s ∈ storesT t) ?_ (fun R hR => ?_)
  rotate_left
  · refine ⟨fun m σ G => ∃ (y3 : Option V) (kvs : List (Key × V)) (L : List Int) (ts : List Tr) (ps : List Addr), σ = [some (.ref a), some (.ref fa), some (.ref wa), y3] ∧ m = sizeL ts ∧ sizeL ts ≤ sizeT t ∧ Same H G ∧ G fa = some (.dK kvs) ∧ KeyS kvs L ∧ G wa = some (.lst (ps.map V.ref)) ∧ TrsAt G ts ps ∧ ∀ s, s ∈ storesT t ↔ s ∈ L ∨ ∃ u ∈ ts, s ∈ storesT u, ⟨_, none, [], [], [t], [a], rfl, rfl, by simp [sizeL], s1.trans s2, s2 _ _ h1, .nil, h2, trs1 (ht.same (s1.trans s2)), fun s => by simp⟩, ?_⟩
    rintro m σ G ⟨y3, kvs, L, ts, ps, rfl, rfl, sl, sG, gf, ks, gw, tr, mem⟩
    have kids3 : ∀ u : Tr, (kids u).length ≤ 3 := fun u => by cases u <;> simp [kids]
    have tsl : ts.length ≤ sizeL ts := by
      unfold sizeL
      clear mem tr sl
      induction ts with
      | nil => simp
      | cons u us ih => have : 1 ≤ sizeT u := by cases u <;> simp [sizeT]
                        simp only [List.map_cons, List.sum_cons, List.length_cons]; omega
    wp_walk using inV, eqV
    refine ⟨_, .inl (.of gw), ?_⟩
    rw [List.length_map, tr.1]
    by_cases c : (0 : Int) < (ts.length : Nat)
    · rw [if_pos (by simpa using c)]
      have nn : ts ≠ [] := fun z => by rw [z] at c; simp at c
      obtain ⟨us, u, qs, p, rfl, rfl, tr1, tp⟩ := tr.snoc_inv nn
      refine ⟨fun σ' H' => ∃ m', m' < sizeL (us ++ [u]) ∧ _, fun σ' H' h => h, ?_⟩
      have gl : ((qs ++ [p]).map V.ref)[((qs ++ [p]).map V.ref).length - 1]? = some (V.ref p) := by rw [List.map_append]; exact last_at
      have dl : ((qs ++ [p]).map V.ref).dropLast = qs.map V.ref := by rw [List.map_append]; exact List.dropLast_concat
      refine seq_with (fun σ G1 => σ = [some (.ref a), some (.ref fa), some (.ref wa), some (.ref p)] ∧ Same H G1 ∧ G1 fa = some (.dK kvs) ∧ G1 wa = some (.lst (qs.map V.ref)) ∧ TrsAt G1 us qs ∧ TrAt G1 u p) ?_ (fun R hR => ?_)
      rotate_left
      · wp_walk using tSeq, inV, eqV
        refine ⟨_, gw, _, gl, ?_⟩
        rw [dl]
        have sT : SameT G (upd G wa (HO.lst (qs.map V.ref))) := SameT.no (fun xs z => by rw [gw] at z; cases z)
        exact hR _ _ ⟨rfl, same wa1 sG _, by rw [upd_ne fw]; exact gf, upd_same, tr1.sameT sT, tp.sameT sT⟩
      rintro σa G1 ⟨rfl, s1', gf1, gw1, tr1', tp1⟩
      refine seq_with (fun σ G2 => ∃ kvs' L', σ = [some (.ref a), some (.ref fa), some (.ref wa), some (.ref p)] ∧ Same H G2 ∧ G2 fa = some (.dK kvs') ∧ KeyS kvs' L' ∧ (∀ s, s ∈ L' ↔ s ∈ L ∨ s ∈ ownS u) ∧ G2 wa = some (.lst (qs.map V.ref)) ∧ TrsAt G2 us qs ∧ TrAt G2 u p) ?_ (fun R hR => ?_)
      rotate_left
      · wp_walk using tSeq, inV, eqV
        rcases head_own tp1 with ⟨s, w, xs, e, hw, os⟩ | ⟨w, xs, e, n1, n2, os⟩
        · refine ⟨_, e, _, atI_nat (j := 0) rfl, small (by decide), fun p0 hp0 => ⟨rfl, ?_⟩⟩
          have t0 := same_new hp0 (HO.tup [V.str (Str.ofString "read"), V.str (Str.ofString "fetch")])
          rw [if_pos (by rcases hw with rfl | rfl; exact .inl (by decide +kernel); exact .inr (by decide +kernel))]
          obtain ⟨L', k', m'⟩ := ks.put s (.bl true)
          have kl : kvs.length ≤ 3 := by rw [ks.len]; exact sub_len ks.2 fun x hx => so x ((mem x).mpr (.inl hx))
          have gf2 := t0 _ _ gf1
          refine ⟨_, t0 _ _ e, _, atI_nat (j := 1) rfl, _, .inl ⟨kvs, .inl s, gf2, rfl, small1000 (by omega), rfl⟩, ?_⟩
          have sT : SameT _ (upd (upd G1 p0 (HO.tup [V.str (Str.ofString "read"), V.str (Str.ofString "fetch")])) fa (HO.dK (putK kvs (Sum.inl s : Key) (.bl true)))) := (SameT.of t0).trans (SameT.no (fun xs z => by rw [gf2] at z; cases z))
          exact hR _ _ ⟨_, L', rfl, same fa0 (s1'.trans t0) _, upd_same, k', fun x => by rw [m', os]; simp, by rw [upd_ne fw.symm]; exact t0 _ _ gw1, tr1'.sameT sT, tp1.sameT sT⟩
        · refine ⟨_, e, _, atI_nat (j := 0) rfl, small (by decide), fun p0 hp0 => ⟨rfl, ?_⟩⟩
          have t0 := same_new hp0 (HO.tup [V.str (Str.ofString "read"), V.str (Str.ofString "fetch")])
          rw [if_neg (by rintro (z | z); exact n1 (eq_of_beq z).symm; exact n2 (eq_of_beq z).symm)]
          exact hR _ _ ⟨kvs, L, rfl, s1'.trans t0, t0 _ _ gf1, ks, fun x => by rw [os]; simp, t0 _ _ gw1, tr1'.sameT (.of t0), tp1.same t0⟩
      rintro σb G2 ⟨kvs', L', rfl, s2', gf2, ks2, m2, gw2, tr2, tp2⟩
      wp_walk using tSeq, inV, eqV, spbranchesof
      refine ⟨.inl ⟨_, .of gw2⟩, u, tp2, fun G3 pk ks3 t3 e3 trk => ?_⟩
      have gw3 := t3 _ _ gw2
      have sT : SameT G3 (upd G3 wa (HO.lst (qs.map V.ref ++ ks3.map V.ref))) := SameT.no (fun xs z => by rw [gw3] at z; cases z)
      have k3 := kids3 u
      have ql := tr2.1
      have kl := trk.1
      have tsl : us.length + 1 ≤ sizeL (us ++ [u]) := by simpa using tsl
      have e1 : sizeL (us ++ [u]) = sizeL us + sizeT u := by simp [sizeL]
      have e2 : sizeL (us ++ kids u) + 1 = sizeL us + sizeT u := by rw [size_kids u]; simp [sizeL]; omega
      refine ⟨_, gw3, _, e3, by rw [List.length_map, List.length_map]; exact small (by omega), sizeL (us ++ kids u), by omega, kvs', L', us ++ kids u, rfl, by omega, same wa1 (s2'.trans t3) _, by rw [upd_ne fw]; exact t3 _ _ gf2, ks2, qs ++ ks3, by rw [List.map_append], ((tr2.sameT (.of t3)).app trk).sameT sT, fun s => ?_⟩
      rw [mem, m2]
      constructor
      · rintro (h | ⟨v, hv, hs⟩)
        · exact .inl (.inl h)
        · rcases List.mem_append.mp hv with hv | hv
          · exact .inr ⟨v, List.mem_append_left _ hv, hs⟩
          · cases List.mem_singleton.mp hv
            rcases (stores_kids u s).mp hs with h | ⟨x, hx, h⟩
            · exact .inl (.inr h)
            · exact .inr ⟨x, List.mem_append_right _ hx, h⟩
      · rintro ((h | h) | ⟨v, hv, hs⟩)
        · exact .inl h
        · exact .inr ⟨u, by simp, (stores_kids u s).mpr (.inl h)⟩
        · rcases List.mem_append.mp hv with hv | hv
          · exact .inr ⟨v, List.mem_append_left _ hv, hs⟩
          · exact .inr ⟨u, by simp, (stores_kids u s).mpr (.inr ⟨v, hv, hs⟩)⟩
    · rw [if_neg (by simpa using c)]
      have z : ts = [] := List.eq_nil_of_length_eq_zero (by omega)
      subst z
      exact hR _ _ ⟨y3, kvs, L, rfl, sG, gf, ks, fun s => by rw [mem]; simp⟩
  rintro σ3 G ⟨y3, kvs, L, rfl, sG, gf, ks, mem⟩
  wp_walk using tSeq, inV, eqV
  have L3 : L.length ≤ 3 := sub_len ks.2 fun x hx => so x ((mem x).mp hx)
  exact ⟨kvs, gf, L, ks.1, fun _ => by omega, fun ns' pm pw nd l hl => q _ _ ns' (sG.trans (same_new hl _)) upd_same (lt_of_le pw (pm.nodup_iff.mpr nd)) fun s => by rw [pm.mem_iff, mem]⟩
end
abbrev slawleaf : Stmt := top 6
def splawleaf : Sp := fun vs H Q _ => ∃ (c w i : Int), vs = [.int c, .int w, .int i] ∧ 0 ≤ i ∧ i ≤ 2 ∧ ∀ H' p o, Same H H' → TrAt H' (.leaf o) p → StOk (.leaf o) → Q (.ref p) H'
section
variable {P : Program} {w : World} {K : PySem.W.Frag} {mg : Str → Option Value} {base : Heap} {f : Addr} {fd : FuncData}
theorem sclawleaf : FnScope ["cell", "way", "inner", "strides"] ["cell", "way", "inner"] (defScope slawleaf) := ⟨rfl, rfl, rfl, by decide +kernel, rfl, by decide +kernel, by decide +kernel⟩
theorem oklawleaf (F : Fun K "_law_leaf" "_law_leaf" slawleaf f fd) (ztuple : mg "tuple" = none) (zrange : mg "range" = none) : FnOk P w K mg base CX0 (1) f fd ["cell", "way", "inner"] (splawleaf) := by
  have sc := sclawleaf
  refine F.ok sc (fun vs H Q E h => ?_) (fun cdv A outer s H vs Q E hr h => ?_)
  · obtain ⟨c, w, i, rfl, _⟩ := h; rfl
  obtain ⟨c, w, i, rfl, i0, i2, q⟩ := h
  refine ⟨_, (pss_cons (ps_set (i := 3) sc.nd rfl (by first | exact Or.inl rfl | exact Or.inr rfl) (pe_callTy call_tuple_of (by rfl) ztuple boot_tuple (pa_cons (pe_comp (own := ["k"]) (fv := ["cell"]) (js := [0]) rfl (pi_range1 (by rfl) zrange (pa_cons (pe_op op_add pe_int (pv 2)) pa_nil)) rfl (by decide) rfl (by decide) (by first | exact fun _ _ h => h | exact cl_sub1 rfl | exact cl_sub2 rfl rfl | exact cl_sub3 rfl rfl rfl) (has_of (by rfl)) rfl (cap1 (by first | exact ⟨rfl, .inl rfl, .inl rfl⟩ | exact ⟨rfl, .inl rfl, .inr rfl⟩)) (fun _ _ _ _ => (pg_name (i := 0) (show (["k", "cell"] : List Str).Nodup by decide +kernel) rfl (Or.inl rfl))) (fun _ _ _ _ => (pe_op op_sub (pe_op op_mod (pe_op op_fdiv (pv 1) (pe_op op_add pe_int (pe_op op_mul (pe_op op_mul pe_int (pv 0)) (pv 0)))) pe_int) pe_int))) pa_nil))) (pss_cons (ps_if (pt_cmpR op_eq (pv 1) pe_int (nomark _)) (pss_one (ps_ret (pe_tup (pa_cons pe_str (pa_cons (pe_op op_sub (pe_op op_mod (pv 0) (pe_op op_pow pe_int pe_int)) (pe_op op_pow pe_int pe_int)) pa_nil))))) pss_nil) (pss_cons (ps_if (pt_cmpR op_eq (pv 1) pe_int (nomark _)) (pss_one (ps_ret (pe_tup (pa_cons pe_str (pa_cons (pe_op op_add pe_int (pe_op op_mod (pv 0) pe_int)) (pa_cons (pv 3) pa_nil)))))) pss_nil) (pss_one (ps_ret (pe_tup (pa_cons pe_str (pa_cons (pe_op op_mod (pe_op op_fdiv (pv 0) pe_int) pe_int) (pa_cons (pe_op op_add pe_int (pe_op op_mod (pv 0) pe_int)) (pa_cons (pv 3) pa_nil)))))))))), ?_⟩
  wp_walk using tSeq, inV, eqV
  refine ⟨by omega, by omega, ?_⟩
  refine CompR.mk (fun j ys σ G => G = H ∧ ys.length = j ∧ j ≤ 5 ∧ ∃ y, σ = [y, some (.int c)]) ⟨rfl, rfl, by omega, _, rfl⟩ (fun j ys σ G hj h => ?_) (fun ys σ G h p hp => ?_)
  · obtain ⟨rfl, yl, j5, y, rfl⟩ := h
    refine ⟨by rw [yl]; exact small1000 (by omega), ?_⟩
    have j3 : j ≤ 4 := by omega
    rcases (show j = 0 ∨ j = 1 ∨ j = 2 ∨ j = 3 ∨ j = 4 by omega) with rfl | rfl | rfl | rfl | rfl <;>
    · wp_walk using tSeq, inV, eqV
      refine ⟨.inl ⟨by decide, by decide⟩, by decide, by decide, by simp [yl], by omega, _, rfl⟩
  · obtain ⟨rfl, yl, j5, y, rfl⟩ := h
    refine ⟨p, rfl, ys, .inl ⟨.of upd_same, fun l hl => ?_⟩⟩
    have s1 := (same_new hp (HO.lst ys)).trans (same_new hl (HO.tup ys))
    split
    · exact ⟨small (by decide), fun p1 hp1 => q _ _ none (s1.trans (same_new hp1 _)) ⟨"num", _, upd_same, .inl rfl⟩ (fun s hs => by simp [storesT] at hs)⟩
    · split
      · exact ⟨small (by decide), fun p1 hp1 => q _ _ none (s1.trans (same_new hp1 _)) ⟨"index", _, upd_same, .inr rfl⟩ (fun s hs => by simp [storesT] at hs)⟩
      · exact ⟨small (by decide), fun p1 hp1 => q _ _ (some (c / 3 % 3)) (s1.trans (same_new hp1 _)) ⟨_, upd_same⟩ (fun s hs => by simp [storesT] at hs; subst hs; exact three _ (by omega) (by omega))⟩
end
abbrev slawfoldword : Stmt := top 7
def splawfoldword : Sp := fun vs H Q _ => ∃ (c : Int), vs = [.int c] ∧ ∀ H' w, Same H H' → Q (.str w) H'
section
variable {P : Program} {w : World} {K : PySem.W.Frag} {mg : Str → Option Value} {base : Heap} {f : Addr} {fd : FuncData}
theorem sclawfoldword : FnScope ["cell"] ["cell"] (defScope slawfoldword) := ⟨rfl, rfl, rfl, by decide +kernel, rfl, by decide +kernel, by decide +kernel⟩
theorem oklawfoldword (F : Fun K "_law_fold_word" "_law_fold_word" slawfoldword f fd) : FnOk P w K mg base CX0 (1) f fd ["cell"] (splawfoldword) := by
  have sc := sclawfoldword
  refine F.ok sc (fun vs H Q E h => ?_) (fun cdv A outer s H vs Q E hr h => ?_)
  · obtain ⟨c, rfl, _⟩ := h; rfl
  obtain ⟨c, rfl, q⟩ := h
  refine ⟨_, (pss_one (ps_ret (pe_ix ix_list (pe_lst (pa_cons pe_str (pa_cons pe_str (pa_cons pe_str (pa_cons pe_str (pa_cons pe_str (pa_cons pe_str (pa_cons pe_str pa_nil)))))))) (pe_op op_mod (pv 0) pe_int) (fun _ _ => rfl)))), ?_⟩
  wp_walk using tSeq, inV, eqV
  refine ⟨small (by decide), fun p hp => ⟨_, .of upd_same, _, str_at (ws := ["add", "mul", "max", "min", "and", "or", "xor"]) (m := c % 7) (by omega) (by show _ < ((7 : Nat) : Int); omega), q _ _ (same_new hp _)⟩⟩
end
abbrev slawpairword : Stmt := top 8
def splawpairword : Sp := fun vs H Q _ => ∃ (c : Int), vs = [.int c] ∧ ∀ H' w, Same H H' → Q (.str w) H'
section
variable {P : Program} {w : World} {K : PySem.W.Frag} {mg : Str → Option Value} {base : Heap} {f : Addr} {fd : FuncData}
theorem sclawpairword : FnScope ["cell", "more"] ["cell"] (defScope slawpairword) := ⟨rfl, rfl, rfl, by decide +kernel, rfl, by decide +kernel, by decide +kernel⟩
theorem oklawpairword (F : Fun K "_law_pair_word" "_law_pair_word" slawpairword f fd) (clawfoldword : Callee P w K mg base CX0 (1) "_law_fold_word" ["cell"] splawfoldword) : FnOk P w K mg base CX0 (2) f fd ["cell"] (splawpairword) := by
  have sc := sclawpairword
  refine F.ok sc (fun vs H Q E h => ?_) (fun cdv A outer s H vs Q E hr h => ?_)
  · obtain ⟨c, rfl, _⟩ := h; rfl
  obtain ⟨c, rfl, q⟩ := h
  refine ⟨_, (pss_cons (ps_set (i := 1) sc.nd rfl (by first | exact Or.inl rfl | exact Or.inr rfl) (pe_lst (pa_cons pe_str (pa_cons pe_str (pa_cons pe_str (pa_cons pe_str (pa_cons pe_str pa_nil))))))) (pss_cons (ps_if (pt_cmpR op_lt (pe_op op_mod (pv 0) pe_int) pe_int (nomark _)) (pss_one (ps_ret (pe_ix ix_list (pv 1) (pe_op op_mod (pv 0) pe_int) (fun _ _ => rfl)))) pss_nil) (pss_one (ps_ret (pe_cal clawfoldword hr (by rfl) pass0 (pa_cons (pe_op op_sub (pe_op op_mod (pv 0) pe_int) pe_int) pa_nil)))))), ?_⟩
  wp_walk using tSeq, inV, eqV, splawfoldword
  refine ⟨small (by decide), fun p hp => ?_⟩
  split
  · exact ⟨_, .of upd_same, _, str_at (ws := ["sub", "quo", "rest", "less", "like"]) (m := c % 12) (by omega) (by show _ < ((5 : Nat) : Int); omega), q _ _ (same_new hp _)⟩
  · exact fun H1 w s1 => q _ _ ((same_new hp _).trans s1)
end
abbrev slawupon : Stmt := top 9
def splawupon : Sp := fun vs H Q _ => ∃ (c w i : Int) (a : Addr) (t : Tr), vs = [.int c, .int w, .ref a, .int i] ∧ TrAt H t a ∧ StOk t ∧ 0 ≤ i ∧ i ≤ 2 ∧ ∀ H' p f, Same H H' → PrAt H' f p → GdF (sizeT t + 1) f → Q (.ref p) H'
section
variable {P : Program} {w : World} {K : PySem.W.Frag} {mg : Str → Option Value} {base : Heap} {f : Addr} {fd : FuncData}
theorem sclawupon : FnScope ["cell", "way", "tree", "inner", "strides"] ["cell", "way", "tree", "inner"] (defScope slawupon) := ⟨rfl, rfl, rfl, by decide +kernel, rfl, by decide +kernel, by decide +kernel⟩
theorem oklawupon (F : Fun K "_law_upon" "_law_upon" slawupon f fd) (clawfoldword : Callee P w K mg base CX0 (1) "_law_fold_word" ["cell"] splawfoldword) (ztuple : mg "tuple" = none) (zrange : mg "range" = none) : FnOk P w K mg base CX0 (2) f fd ["cell", "way", "tree", "inner"] (splawupon) := by
  have sc := sclawupon
  refine F.ok sc (fun vs H Q E h => ?_) (fun cdv A outer s H vs Q E hr h => ?_)
  · obtain ⟨c, w, i, a, t, rfl, _⟩ := h; rfl
  obtain ⟨c, w, i, a, t, rfl, ht, so, i0, i2, q⟩ := h
  refine ⟨_, (pss_cons (ps_if (pt_cmpR op_eq (pv 1) pe_int (nomark _)) (pss_cons (ps_set (i := 4) sc.nd rfl (by first | exact Or.inl rfl | exact Or.inr rfl) (pe_callTy call_tuple_of (by rfl) ztuple boot_tuple (pa_cons (pe_comp (own := ["k"]) (fv := ["cell"]) (js := [0]) rfl (pi_range1 (by rfl) zrange (pa_cons (pe_op op_add pe_int (pv 3)) pa_nil)) rfl (by decide) rfl (by decide) (by first | exact fun _ _ h => h | exact cl_sub1 rfl | exact cl_sub2 rfl rfl | exact cl_sub3 rfl rfl rfl) (has_of (by rfl)) rfl (cap1 (by first | exact ⟨rfl, .inl rfl, .inl rfl⟩ | exact ⟨rfl, .inl rfl, .inr rfl⟩)) (fun _ _ _ _ => (pg_name (i := 0) (show (["k", "cell"] : List Str).Nodup by decide +kernel) rfl (Or.inl rfl))) (fun _ _ _ _ => (pe_op op_sub (pe_op op_mod (pe_op op_fdiv (pv 1) (pe_op op_add pe_int (pe_op op_mul (pe_op op_mul pe_int (pv 0)) (pv 0)))) pe_int) pe_int))) pa_nil))) (pss_one (ps_ret (pe_tup (pa_tup (pe_tup (pa_cons pe_str (pa_cons (pe_op op_mod (pv 0) pe_int) (pa_cons (pe_op op_add pe_int (pe_op op_mod (pe_op op_fdiv (pv 0) pe_int) pe_int)) (pa_cons (pe_op op_sub (pe_op op_mod (pe_op op_fdiv (pv 0) pe_int) pe_int) pe_int) (pa_cons (pe_op op_add pe_int (pe_op op_mod (pe_op op_fdiv (pv 0) pe_int) pe_int)) (pa_cons (pv 4) (pa_cons (pv 2) pa_nil)))))))) (pa_cons (pv 3) pa_nil)))))) pss_nil) (pss_cons (ps_if (pw_and (pt_cmpR op_eq (pv 1) pe_int (nomark _)) (pw_and1 (pt_cmpR op_gt (pv 3) pe_int (nomark _)))).pt (pss_one (ps_ret (pe_tup (pa_tup (pe_tup (pa_cons pe_str (pa_cons (pe_cal clawfoldword hr (by rfl) pass0 (pa_cons (pv 0) pa_nil)) (pa_cons (pe_op op_mod (pe_op op_fdiv (pv 0) pe_int) pe_int) (pa_cons (pv 2) pa_nil))))) (pa_cons (pe_op op_sub (pv 3) pe_int) pa_nil))))) pss_nil) (pss_one (ps_ret (pe_tup (pa_tup (pe_tup (pa_cons pe_str (pa_cons (pe_ix ix_list (pe_lst (pa_cons pe_str (pa_cons pe_str (pa_cons pe_str (pa_cons pe_str pa_nil))))) (pe_op op_mod (pv 0) pe_int) (fun _ _ => rfl)) (pa_cons (pv 2) pa_nil)))) (pa_cons (pv 3) pa_nil))))))), ?_⟩
  wp_walk using tSeq, inV, eqV, splawfoldword
  split
  · refine ⟨by omega, by omega, ?_⟩
    refine CompR.mk (fun j ys σ G => G = H ∧ ys.length = j ∧ j ≤ 5 ∧ ∃ y, σ = [y, some (.int c)]) ⟨rfl, rfl, by omega, _, rfl⟩ (fun j ys σ G hj h => ?_) (fun ys σ G h p hp => ?_)
    · obtain ⟨rfl, yl, j5, y, rfl⟩ := h
      refine ⟨by rw [yl]; exact small1000 (by omega), ?_⟩
      rcases (show j = 0 ∨ j = 1 ∨ j = 2 ∨ j = 3 ∨ j = 4 by omega) with rfl | rfl | rfl | rfl | rfl <;>
      · wp_walk using tSeq, inV, eqV
        refine ⟨.inl ⟨by decide, by decide⟩, by decide, by decide, by simp [yl], by omega, _, rfl⟩
    · obtain ⟨rfl, yl, j5, y, rfl⟩ := h
      refine ⟨p, rfl, ys, .inl ⟨.of upd_same, fun l hl => ⟨small (by decide), fun p1 hp1 => ⟨small (by decide), fun p2 hp2 => ?_⟩⟩⟩⟩
      have s1 := (same_new hp (HO.lst ys)).trans (same_new hl (HO.tup ys))
      refine q _ _ (.fetch (c % 3) t, i) (s1.trans ((same_new hp1 _).trans (same_new hp2 _))) ⟨p1, upd_same, _, _, _, _, _, same_new hp2 _ _ _ upd_same, ht.same (s1.trans ((same_new hp1 _).trans (same_new hp2 _)))⟩ ⟨Nat.le_refl _, fun s hs => ?_, i0, i2⟩
      rcases List.mem_cons.mp hs with rfl | hs
      · exact three _ (by omega) (by omega)
      · exact so s hs
  · split
    · split
      · exact fun H1 w1 s1 => ⟨small (by decide), fun p hp => ⟨small (by decide), fun p1 hp1 => q _ _ (.fold (c / 7 % 4) t, i - 1) (s1.trans ((same_new hp _).trans (same_new hp1 _))) ⟨p, upd_same, w1, a, same_new hp1 _ _ _ upd_same, ht.same (s1.trans ((same_new hp _).trans (same_new hp1 _))), by omega, by omega⟩ ⟨Nat.le_refl _, so, by show 0 ≤ i - 1; omega, by show i - 1 ≤ 2; omega⟩⟩⟩
      · exact ⟨small (by decide), fun p hp => ⟨_, .of upd_same, _, str_at (ws := ["neg", "abs", "sign", "not"]) (m := c % 4) (by omega) (by show _ < ((4 : Nat) : Int); omega), small (by decide), fun p1 hp1 => ⟨small (by decide), fun p2 hp2 => q _ _ (.each t, i) (((same_new hp _).trans (same_new hp1 _)).trans (same_new hp2 _)) ⟨p1, upd_same, _, a, same_new hp2 _ _ _ upd_same, ht.same (((same_new hp _).trans (same_new hp1 _)).trans (same_new hp2 _))⟩ ⟨Nat.le_refl _, so, i0, i2⟩⟩⟩⟩
    · exact ⟨small (by decide), fun p hp => ⟨_, .of upd_same, _, str_at (ws := ["neg", "abs", "sign", "not"]) (m := c % 4) (by omega) (by show _ < ((4 : Nat) : Int); omega), small (by decide), fun p1 hp1 => ⟨small (by decide), fun p2 hp2 => q _ _ (.each t, i) (((same_new hp _).trans (same_new hp1 _)).trans (same_new hp2 _)) ⟨p1, upd_same, _, a, same_new hp2 _ _ _ upd_same, ht.same (((same_new hp _).trans (same_new hp1 _)).trans (same_new hp2 _))⟩ ⟨Nat.le_refl _, so, i0, i2⟩⟩⟩⟩
end
abbrev slawdeed : Stmt := top 10
def splawdeed : Sp := fun vs H Q _ => ∃ (l : Addr) (c : Int) (n : Nat) (fs : List (Tr × Int)) (ps : List Addr), vs = [.ref l, .int c] ∧ H l = some (.lst (ps.map V.ref)) ∧ FsAt H fs ps ∧ 1 ≤ fs.length ∧ fs.length ≤ 100 ∧ (∀ f ∈ fs, GdF n f) ∧ totF fs ≤ n ∧ ∀ H' fs' ps', SameB l H H' → H' l = some (.lst (ps'.map V.ref)) → FsAt H' fs' ps' → 1 ≤ fs'.length → fs'.length ≤ fs.length + 1 → (∀ f ∈ fs', GdF (n + 1) f) → totF fs' ≤ n + 1 → Q .non H'
section
variable {P : Program} {w : World} {K : PySem.W.Frag} {mg : Str → Option Value} {base : Heap} {f : Addr} {fd : FuncData}
theorem sclawdeed : FnScope ["trees", "cell", "way", "alike", "right", "left", "last", "mid", "top"] ["trees", "cell"] (defScope slawdeed) := ⟨rfl, rfl, rfl, by decide +kernel, rfl, by decide +kernel, by decide +kernel⟩
theorem oklawdeed (F : Fun K "_law_deed" "_law_deed" slawdeed f fd) (clawpairword : Callee P w K mg base CX0 (2) "_law_pair_word" ["cell"] splawpairword) (clawupon : Callee P w K mg base CX0 (2) "_law_upon" ["cell", "way", "tree", "inner"] splawupon) (clawleaf : Callee P w K mg base CX0 (2) "_law_leaf" ["cell", "way", "inner"] splawleaf) (zmin : mg "min" = none) (zlen : mg "len" = none) : FnOk P w K mg base CX0 (3) f fd ["trees", "cell"] (splawdeed) := by
  have sc := sclawdeed
  refine F.ok sc (fun vs H Q E h => ?_) (fun cdv A outer s H vs Q E hr h => ?_)
  · obtain ⟨l, c, n, fs, ps, rfl, _⟩ := h; rfl
  obtain ⟨l, c, n, fs, ps, rfl, hl, ft, f1, f100, gd, tot, q⟩ := h
  refine ⟨_, (pss_cons (ps_set (i := 2) sc.nd rfl (by first | exact Or.inl rfl | exact Or.inr rfl) (pe_op op_mod (pv 1) pe_int)) (pss_cons (ps_set (i := 1) sc.nd rfl (by first | exact Or.inl rfl | exact Or.inr rfl) (pe_op op_fdiv (pv 1) pe_int)) (pss_cons (ps_set (i := 3) sc.nd rfl (by first | exact Or.inl rfl | exact Or.inr rfl) pe_int) (pss_cons (ps_while PassesOwn.never (pw_and (pt_cmpR op_lt (pv 3) (pe_callB (call_min2 rfl) (by rfl) zmin boot_min (pa_cons pe_int (pa_cons (pe_callB call_len_seq (by rfl) zlen PySem.boot_len (pa_cons (pv 0) pa_nil)) pa_nil))) (nomark _)) (pw_and1 (pt_cmpR op_eq (pe_ix ix_tupH (pe_ix ix_listH (pv 0) (pe_op op_sub (pe_un un_neg pe_int) (pv 3)) (fun _ _ => rfl)) pe_int (fun _ _ => rfl)) (pe_ix ix_tupH (pe_ix ix_listH (pv 0) (pe_un un_neg pe_int) (fun _ _ => rfl)) pe_int (fun _ _ => rfl)) (nomark _)))).pt (pss_one (ps_set (i := 3) sc.nd rfl (by first | exact Or.inl rfl | exact Or.inr rfl) (pe_op op_add (pv 3) pe_int)))) (pss_one (ps_if (pw_and (pt_cmpR op_eq (pv 2) pe_int (nomark _)) (pw_and1 (pt_cmpR op_gt (pv 3) pe_int (nomark _)))).pt (pss_cons (ps_set (i := 4) sc.nd rfl (by first | exact Or.inl rfl | exact Or.inr rfl) (pe_pop (pv 0))) (pss_cons (ps_set (i := 5) sc.nd rfl (by first | exact Or.inl rfl | exact Or.inr rfl) (pe_pop (pv 0))) (pss_one (ps_expr (pe_app (pv 0) (pe_tup (pa_tup (pe_tup (pa_cons pe_str (pa_cons (pe_cal clawpairword hr (by rfl) pass0 (pa_cons (pv 1) pa_nil)) (pa_cons (pe_ix ix_tupH (pv 5) pe_int (fun _ _ => rfl)) (pa_cons (pe_ix ix_tupH (pv 4) pe_int (fun _ _ => rfl)) pa_nil))))) (pa_cons (pe_ix ix_tupH (pv 5) pe_int (fun _ _ => rfl)) pa_nil)))))))) (pss_one (ps_if (pw_and (pt_cmpR op_eq (pv 2) pe_int (nomark _)) (pw_and1 (pt_cmpR op_gt (pv 3) pe_int (nomark _)))).pt (pss_cons (ps_set (i := 6) sc.nd rfl (by first | exact Or.inl rfl | exact Or.inr rfl) (pe_pop (pv 0))) (pss_cons (ps_set (i := 7) sc.nd rfl (by first | exact Or.inl rfl | exact Or.inr rfl) (pe_pop (pv 0))) (pss_cons (ps_set (i := 5) sc.nd rfl (by first | exact Or.inl rfl | exact Or.inr rfl) (pe_pop (pv 0))) (pss_one (ps_expr (pe_app (pv 0) (pe_tup (pa_tup (pe_tup (pa_cons pe_str (pa_cons (pe_ix ix_tupH (pv 5) pe_int (fun _ _ => rfl)) (pa_cons (pe_ix ix_tupH (pv 7) pe_int (fun _ _ => rfl)) (pa_cons (pe_ix ix_tupH (pv 6) pe_int (fun _ _ => rfl)) pa_nil))))) (pa_cons (pe_ix ix_tupH (pv 5) pe_int (fun _ _ => rfl)) pa_nil))))))))) (pss_one (ps_if (pt_cmpR op_gt (pv 2) pe_int (nomark _)) (pss_cons (ps_set (i := 8) sc.nd rfl (by first | exact Or.inl rfl | exact Or.inr rfl) (pe_pop (pv 0))) (pss_one (ps_expr (pe_app (pv 0) (pe_cal clawupon hr (by rfl) pass0 (pa_cons (pv 1) (pa_cons (pe_callB (call_min2 rfl) (by rfl) zmin boot_min (pa_cons (pv 2) (pa_cons pe_int pa_nil))) (pa_cons (pe_ix ix_tupH (pv 8) pe_int (fun _ _ => rfl)) (pa_cons (pe_ix ix_tupH (pv 8) pe_int (fun _ _ => rfl)) pa_nil))))))))) (pss_one (ps_expr (pe_app (pv 0) (pe_tup (pa_cons (pe_cal clawleaf hr (by rfl) pass0 (pa_cons (pe_op op_fdiv (pv 1) pe_int) (pa_cons (pv 2) (pa_cons (pe_op op_mod (pv 1) pe_int) pa_nil)))) (pa_cons (pe_op op_mod (pv 1) pe_int) pa_nil)))))))))))))))), ?_⟩
  simp only [L2.start, List.length_cons, List.length_nil, List.replicate, List.cons_append, List.nil_append, Nat.reduceSub, Nat.reduceAdd, List.map_cons, List.map_nil]
  refine seq_with (fun σ G => ∃ w : Int, G = H ∧ σ = [some (.ref l), some (.int c), some (.int w), none, none, none, none, none, none]) ?_ (fun R hR => ?_)
  rotate_left
  · wp_walk using tSeq, inV, eqV
    exact hR _ _ ⟨_, rfl, rfl⟩
  rintro σ1 G ⟨w, rfl, rfl⟩
  refine seq_with (fun σ G' => ∃ c : Int, G' = G ∧ σ = [some (.ref l), some (.int c), some (.int w), none, none, none, none, none, none]) ?_ (fun R hR => ?_)
  rotate_left
  · wp_walk using tSeq, inV, eqV
    exact hR _ _ ⟨_, rfl, rfl⟩
  clear c
  rintro σ2 G' ⟨c, rfl, rfl⟩
  refine seq_with (fun σ G => G = G' ∧ σ = [some (.ref l), some (.int c), some (.int w), some (.int 1), none, none, none, none, none]) ?_ (fun R hR => ?_)
  rotate_left
  · wp_walk using tSeq, inV, eqV
    exact hR _ _ ⟨rfl, rfl⟩
  rintro σ3 G ⟨rfl, rfl⟩
  have fl := ft.1
  refine seq_with (fun σ G' => ∃ al : Nat, G' = G ∧ σ = [some (.ref l), some (.int c), some (.int w), some (.int (al : Int)), none, none, none, none, none] ∧ 1 ≤ al ∧ al ≤ 3 ∧ al ≤ fs.length) ?_ (fun R hR => ?_)
  rotate_left
  · refine ⟨fun m σ G' => ∃ al : Nat, G' = G ∧ σ = [some (.ref l), some (.int c), some (.int w), some (.int (al : Int)), none, none, none, none, none] ∧ 1 ≤ al ∧ al ≤ 3 ∧ al ≤ fs.length ∧ m = 3 - al, ⟨_, 1, rfl, rfl, by omega, by omega, f1, rfl⟩, ?_⟩
    rintro m σ G' ⟨al, rfl, rfl, a1, a3, afl, rfl⟩
    have inn : ∀ k : Nat, k < fs.length → ∃ p v, atI (ps.map V.ref) (-1 - (k : Int)) = some (.ref p) ∧ ∃ q, G' p = some (.tup [.ref q, .int v]) := fun k hk => by
      obtain ⟨p, ep, q, hq, _⟩ := ft.2 (fs.length - 1 - k) _ (List.getElem?_eq_getElem (by omega))
      refine ⟨p, _, at_neg (by rw [List.length_map, fl]; exact hk) (by rw [List.getElem?_map, List.length_map, fl, ep]; rfl), q, hq⟩
    wp_walk using tSeq, inV, eqV
    refine ⟨_, .inl (.of hl), ?_⟩
    rw [List.length_map, fl]
    by_cases c1 : (al : Int) < if (fs.length : Int) < 3 then (fs.length : Int) else 3
    · rw [if_pos c1]
      have al3 : al < 3 ∧ al < fs.length := by split at c1 <;> omega
      obtain ⟨p, v, e1, q1, e2⟩ := inn al al3.2
      obtain ⟨p', v', e3, q3, e4⟩ := inn 0 (by omega)
      refine ⟨_, hl, _, e1, p, rfl, _, e2, _, atI_nat (j := 1) rfl, _, hl, _, e3, p', rfl, _, e4, _, atI_nat (j := 1) rfl, rfl, ?_⟩
      split
      · exact ⟨fun σ' H' => ∃ m', m' < 3 - al ∧ H' = G' ∧ ∃ x : Nat, σ' = [some (.ref l), some (.int c), some (.int w), some (.int (x : Int)), none, none, none, none, none] ∧ 1 ≤ x ∧ x ≤ 3 ∧ x ≤ fs.length ∧ m' = 3 - x, fun σ' H' h => h, 3 - (al + 1), by omega, rfl, al + 1, rfl, by omega, by omega, by omega, rfl⟩
      · exact hR _ _ ⟨al, rfl, rfl, a1, a3, afl⟩
    · rw [if_neg c1]
      exact hR _ _ ⟨al, rfl, rfl, a1, a3, afl⟩
  rintro σ4 G' ⟨al, rfl, rfl, a1, a3, afl⟩
  wp_walk using tSeq, inV, eqV, splawpairword, splawupon, splawleaf
  have pops : ∀ {G : Hp} {fs : List (Tr × Int)} {ps : List Addr}, FsAt G fs ps → 1 ≤ fs.length → ∃ gs f qs p q, fs = gs ++ [f] ∧ (ps.map V.ref)[(ps.map V.ref).length - 1]? = some (V.ref p) ∧ (ps.map V.ref).dropLast = qs.map V.ref ∧ FsAt G gs qs ∧ G p = some (.tup [.ref q, .int f.2]) ∧ TrAt G f.1 q := fun ft n => by
    obtain ⟨gs, f, qs, p, rfl, rfl, h1, q, h2, h3⟩ := ft.pop n
    refine ⟨gs, f, qs, p, q, rfl, ?_, ?_, h1, h2, h3⟩
    · rw [List.map_append]; exact last_at
    · rw [List.map_append]; exact List.dropLast_concat
  have sl : ∀ {G : Hp} {xs : List V} {o : HO}, G l = some (.lst xs) → SameT G (upd G l o) := fun e => SameT.no (fun xs z => by rw [e] at z; cases z)
  have sb : ∀ {G : Hp} (o : HO), SameB l G (upd G l o) := fun o a u n e => by rw [upd_ne n]; exact e
  have leafB : (∃ xs, G' l = some (HO.lst xs)) ∧ 0 ≤ c % 3 ∧ c % 3 ≤ 2 ∧ ∀ (H' : Hp) (p : Addr) (o : Option Int), Same G' H' → TrAt H' (Tr.leaf o) p → StOk (Tr.leaf o) → 2 ≤ sizeLine ∧ ∀ (p_1 : Addr), H' p_1 = none → ∃ xs, upd H' p_1 (HO.tup [V.ref p, V.int (c % 3)]) l = some (HO.lst xs) ∧ xs.length < sizeLine ∧ Q V.non (upd (upd H' p_1 (HO.tup [V.ref p, V.int (c % 3)])) l (HO.lst (xs ++ [V.ref p_1]))) := by
    refine ⟨⟨_, hl⟩, by omega, by omega, fun H1 p o s1 tl so => ⟨small (by decide), fun p1 hp1 => ?_⟩⟩
    have t1 := same_new hp1 (HO.tup [V.ref p, V.int (c % 3)])
    have hl1 := t1 _ _ (s1 _ _ hl)
    refine ⟨_, hl1, by rw [List.length_map, fl]; exact small1000 (by omega), ?_⟩
    have sT := sl (o := HO.lst (ps.map V.ref ++ [V.ref p1])) hl1
    refine q _ (fs ++ [(.leaf o, c % 3)]) (ps ++ [p1]) (fun b u n e => sb _ b u n (t1 _ _ (s1 _ _ e))) (by rw [upd_same, List.map_append]; rfl) (((ft.sameT (.of (s1.trans t1))).snoc ⟨p, upd_same, tl.same t1⟩).sameT sT) (by simp) (by simp) (fun f hf => ?_) (by rw [tot_snoc]; show totF fs + 1 ≤ n + 1; omega)
    rcases List.mem_append.mp hf with hf | hf
    · exact (gd f hf).mono (by omega)
    · cases List.mem_singleton.mp hf; exact ⟨by show 1 ≤ n + 1; omega, so, by show 0 ≤ c % 3; omega, by show c % 3 ≤ 2; omega⟩
  by_cases w6 : w = 6
  · rw [if_pos w6]
    by_cases b1 : (1 : Int) < (al : Int)
    · rw [if_pos b1]
      obtain ⟨gs, f, qs, p, qa, rfl, e1, e2, fg, hp, tp⟩ := pops ft f1
      have g1 : 1 ≤ gs.length := by rw [List.length_append, List.length_singleton] at afl; omega
      obtain ⟨hs, f', qs', p', qb, rfl, e1', e2', fh, hp', tp'⟩ := pops fg g1
      refine ⟨_, hl, _, e1, ?_⟩
      rw [e2]
      refine ⟨_, e1', ⟨_, rfl⟩, ?_⟩
      rw [e2']
      have sT : SameT G' (upd (upd G' l (HO.lst (qs.map V.ref))) l (HO.lst (qs'.map V.ref))) := (sl hl).trans (sl upd_same)
      have hlx : upd (upd G' l (HO.lst (qs.map V.ref))) l (HO.lst (qs'.map V.ref)) l = some (HO.lst (qs'.map V.ref)) := upd_same
      have sB : SameB l G' (upd (upd G' l (HO.lst (qs.map V.ref))) l (HO.lst (qs'.map V.ref))) := fun b u n e => sb _ b u n (sb _ b u n e)
      generalize upd (upd G' l (HO.lst (qs.map V.ref))) l (HO.lst (qs'.map V.ref)) = G2 at *
      intro H1 w1 s1
      have sT1 := sT.trans (.of s1)
      have a1 := sT1 _ _ hp
      have a2 := sT1 _ _ hp'
      refine ⟨p', rfl, _, a2, _, atI_nat (j := 0) rfl, p, rfl, _, a1, _, atI_nat (j := 0) rfl, small (by decide), fun p3 hp3 => ?_⟩
      have t3 := same_new hp3 (HO.tup [V.str (Str.ofString "pair"), V.str w1, V.ref qb, V.ref qa])
      refine ⟨p', rfl, _, t3 _ _ a2, _, atI_nat (j := 1) rfl, small (by decide), fun p4 hp4 => ?_⟩
      have t4 := same_new hp4 (HO.tup [V.ref p3, V.int f'.2])
      have t14 := s1.trans (t3.trans t4)
      have hl4 := t14 _ _ hlx
      have gl := fh.1
      have sT4 := sT.trans (.of t14)
      refine ⟨_, hl4, by rw [List.length_map, gl]; simp only [List.length_append, List.length_singleton] at f100; exact small1000 (by omega), ?_⟩
      have gf := gd f (by simp)
      have gf' := gd f' (by simp)
      rw [tot_snoc, tot_snoc] at tot
      refine q _ (hs ++ [(.pair f'.1 f.1, f'.2)]) (qs' ++ [p4]) (fun b u n e => sb _ b u n (t14 _ _ (sB b u n e))) (by rw [upd_same, List.map_append]; rfl) (((fh.sameT sT4).snoc (f := (.pair f'.1 f.1, f'.2)) ⟨p3, upd_same, w1, qb, qa, t4 _ _ upd_same, tp'.sameT sT4, tp.sameT sT4⟩).sameT (sl hl4)) (by simp) (by simp only [List.length_append, List.length_singleton]; omega) (fun g hg => ?_) (by rw [tot_snoc]; show totF hs + (sizeT f'.1 + sizeT f.1 + 1) ≤ n + 1; omega)
      rcases List.mem_append.mp hg with hg | hg
      · exact (gd g (by simp [hg])).mono (by omega)
      · cases List.mem_singleton.mp hg
        refine ⟨by show sizeT f'.1 + sizeT f.1 + 1 ≤ n + 1; omega, fun s hs => ?_, gf'.2.2.1, gf'.2.2.2⟩
        rcases List.mem_append.mp hs with hs | hs
        · exact gf'.2.1 s hs
        · exact gf.2.1 s hs
    · rw [if_neg b1]
      by_cases w7 : w = 7
      · rw [if_pos w7]
        by_cases b2 : (2 : Int) < (al : Int)
        · rw [if_pos b2]
          obtain ⟨gs, f, qs, p, qa, rfl, e1, e2, fg, hp, tp⟩ := pops ft f1
          have g1 : 1 ≤ gs.length := by rw [List.length_append, List.length_singleton] at afl; omega
          obtain ⟨hs, f', qs', p', qb, rfl, e1', e2', fh, hp', tp'⟩ := pops fg g1
          have g2 : 1 ≤ hs.length := by simp only [List.length_append, List.length_singleton] at afl; omega
          obtain ⟨is, f'', qs'', p'', qc, rfl, e1'', e2'', fi, hp'', tp''⟩ := pops fh g2
          refine ⟨_, hl, _, e1, ?_⟩
          rw [e2]
          refine ⟨_, e1', ?_⟩
          rw [e2']
          refine ⟨_, e1'', ⟨_, rfl⟩, ?_⟩
          rw [e2'']
          have sT : SameT G' (upd (upd (upd G' l (HO.lst (qs.map V.ref))) l (HO.lst (qs'.map V.ref))) l (HO.lst (qs''.map V.ref))) := ((sl hl).trans (sl upd_same)).trans (sl upd_same)
          have hlx : upd (upd (upd G' l (HO.lst (qs.map V.ref))) l (HO.lst (qs'.map V.ref))) l (HO.lst (qs''.map V.ref)) l = some (HO.lst (qs''.map V.ref)) := upd_same
          have sB : SameB l G' (upd (upd (upd G' l (HO.lst (qs.map V.ref))) l (HO.lst (qs'.map V.ref))) l (HO.lst (qs''.map V.ref))) := fun b u n e => sb _ b u n (sb _ b u n (sb _ b u n e))
          generalize upd (upd (upd G' l (HO.lst (qs.map V.ref))) l (HO.lst (qs'.map V.ref))) l (HO.lst (qs''.map V.ref)) = G2 at *
          have a1 := sT _ _ hp
          have a2 := sT _ _ hp'
          have a3 := sT _ _ hp''
          refine ⟨p'', rfl, _, a3, _, atI_nat (j := 0) rfl, p', rfl, _, a2, _, atI_nat (j := 0) rfl, p, rfl, _, a1, _, atI_nat (j := 0) rfl, small (by decide), fun p3 hp3 => ?_⟩
          have t3 := same_new hp3 (HO.tup [V.str (Str.ofString "pick"), V.ref qc, V.ref qb, V.ref qa])
          refine ⟨p'', rfl, _, t3 _ _ a3, _, atI_nat (j := 1) rfl, small (by decide), fun p4 hp4 => ?_⟩
          have t4 := same_new hp4 (HO.tup [V.ref p3, V.int f''.2])
          have t14 := t3.trans t4
          have hl4 := t14 _ _ hlx
          have gl := fi.1
          have sT4 := sT.trans (.of t14)
          refine ⟨_, hl4, by rw [List.length_map, gl]; simp only [List.length_append, List.length_singleton] at f100; exact small1000 (by omega), ?_⟩
          have gf := gd f (by simp)
          have gf' := gd f' (by simp)
          have gf'' := gd f'' (by simp)
          rw [tot_snoc, tot_snoc, tot_snoc] at tot
          refine q _ (is ++ [(.pick f''.1 f'.1 f.1, f''.2)]) (qs'' ++ [p4]) (fun b u n e => sb _ b u n (t14 _ _ (sB b u n e))) (by rw [upd_same, List.map_append]; rfl) (((fi.sameT sT4).snoc (f := (.pick f''.1 f'.1 f.1, f''.2)) ⟨p3, upd_same, qc, qb, qa, t4 _ _ upd_same, tp''.sameT sT4, tp'.sameT sT4, tp.sameT sT4⟩).sameT (sl hl4)) (by simp) (by simp only [List.length_append, List.length_singleton]; omega) (fun g hg => ?_) (by rw [tot_snoc]; show totF is + (sizeT f''.1 + sizeT f'.1 + sizeT f.1 + 1) ≤ n + 1; omega)
          rcases List.mem_append.mp hg with hg | hg
          · exact (gd g (by simp [hg])).mono (by omega)
          · cases List.mem_singleton.mp hg
            refine ⟨by show sizeT f''.1 + sizeT f'.1 + sizeT f.1 + 1 ≤ n + 1; omega, fun s hs => ?_, gf''.2.2.1, gf''.2.2.2⟩
            rcases List.mem_append.mp hs with hs | hs
            · exact gf''.2.1 s hs
            · rcases List.mem_append.mp hs with hs | hs
              · exact gf'.2.1 s hs
              · exact gf.2.1 s hs
        · rw [if_neg b2]
          by_cases w2 : 2 < w
          · rw [if_pos w2]
            obtain ⟨gs, f, qs, p, qa, rfl, e1, e2, fg, hp, tp⟩ := pops ft f1
            refine ⟨_, hl, _, e1, ⟨_, rfl⟩, ?_⟩
            rw [e2]
            have sT := sl (o := HO.lst (qs.map V.ref)) hl
            have hp1 := sT _ _ hp
            have gf := gd f (by simp)
            rw [tot_snoc] at tot
            refine ⟨p, rfl, _, hp1, _, atI_nat (j := 0) rfl, p, rfl, _, hp1, _, atI_nat (j := 1) rfl, f.2, qa, rfl, rfl, f.1, tp.sameT sT, gf.2.1, gf.2.2.1, gf.2.2.2, fun H1 p1 f' s1 pr g1 => ?_⟩
            have hl1 := s1 _ _ (upd_same (H := G') (a := l) (o := HO.lst (qs.map V.ref)))
            have gl := fg.1
            refine ⟨_, hl1, by rw [List.length_map, gl]; rw [List.length_append, List.length_singleton] at f100; exact small1000 (by omega), ?_⟩
            refine q _ (gs ++ [f']) (qs ++ [p1]) (fun b u n e => sb _ b u n (s1 _ _ (sb _ b u n e))) (by rw [upd_same, List.map_append]; rfl) (((fg.sameT (sT.trans (.of s1))).snoc pr).sameT (sl hl1)) (by simp) (by simp) (fun g hg => ?_) (by rw [tot_snoc]; have := g1.1; omega)
            rcases List.mem_append.mp hg with hg | hg
            · exact (gd g (List.mem_append_left _ hg)).mono (by omega)
            · cases List.mem_singleton.mp hg; exact g1.mono (by have := gf.1; omega)
          · rw [if_neg w2]
            exact leafB
      · rw [if_neg w7]
        by_cases w2 : 2 < w
        · rw [if_pos w2]
          obtain ⟨gs, f, qs, p, qa, rfl, e1, e2, fg, hp, tp⟩ := pops ft f1
          refine ⟨_, hl, _, e1, ⟨_, rfl⟩, ?_⟩
          rw [e2]
          have sT := sl (o := HO.lst (qs.map V.ref)) hl
          have hp1 := sT _ _ hp
          have gf := gd f (by simp)
          rw [tot_snoc] at tot
          refine ⟨p, rfl, _, hp1, _, atI_nat (j := 0) rfl, p, rfl, _, hp1, _, atI_nat (j := 1) rfl, f.2, qa, rfl, rfl, f.1, tp.sameT sT, gf.2.1, gf.2.2.1, gf.2.2.2, fun H1 p1 f' s1 pr g1 => ?_⟩
          have hl1 := s1 _ _ (upd_same (H := G') (a := l) (o := HO.lst (qs.map V.ref)))
          have gl := fg.1
          refine ⟨_, hl1, by rw [List.length_map, gl]; rw [List.length_append, List.length_singleton] at f100; exact small1000 (by omega), ?_⟩
          refine q _ (gs ++ [f']) (qs ++ [p1]) (fun b u n e => sb _ b u n (s1 _ _ (sb _ b u n e))) (by rw [upd_same, List.map_append]; rfl) (((fg.sameT (sT.trans (.of s1))).snoc pr).sameT (sl hl1)) (by simp) (by simp) (fun g hg => ?_) (by rw [tot_snoc]; have := g1.1; omega)
          rcases List.mem_append.mp hg with hg | hg
          · exact (gd g (List.mem_append_left _ hg)).mono (by omega)
          · cases List.mem_singleton.mp hg; exact g1.mono (by have := gf.1; omega)
        · rw [if_neg w2]
          exact leafB
  · rw [if_neg w6]
    by_cases w7 : w = 7
    · rw [if_pos w7]
      by_cases b2 : (2 : Int) < (al : Int)
      · rw [if_pos b2]
        obtain ⟨gs, f, qs, p, qa, rfl, e1, e2, fg, hp, tp⟩ := pops ft f1
        have g1 : 1 ≤ gs.length := by rw [List.length_append, List.length_singleton] at afl; omega
        obtain ⟨hs, f', qs', p', qb, rfl, e1', e2', fh, hp', tp'⟩ := pops fg g1
        have g2 : 1 ≤ hs.length := by simp only [List.length_append, List.length_singleton] at afl; omega
        obtain ⟨is, f'', qs'', p'', qc, rfl, e1'', e2'', fi, hp'', tp''⟩ := pops fh g2
        refine ⟨_, hl, _, e1, ?_⟩
        rw [e2]
        refine ⟨_, e1', ?_⟩
        rw [e2']
        refine ⟨_, e1'', ⟨_, rfl⟩, ?_⟩
        rw [e2'']
        have sT : SameT G' (upd (upd (upd G' l (HO.lst (qs.map V.ref))) l (HO.lst (qs'.map V.ref))) l (HO.lst (qs''.map V.ref))) := ((sl hl).trans (sl upd_same)).trans (sl upd_same)
        have hlx : upd (upd (upd G' l (HO.lst (qs.map V.ref))) l (HO.lst (qs'.map V.ref))) l (HO.lst (qs''.map V.ref)) l = some (HO.lst (qs''.map V.ref)) := upd_same
        have sB : SameB l G' (upd (upd (upd G' l (HO.lst (qs.map V.ref))) l (HO.lst (qs'.map V.ref))) l (HO.lst (qs''.map V.ref))) := fun b u n e => sb _ b u n (sb _ b u n (sb _ b u n e))
        generalize upd (upd (upd G' l (HO.lst (qs.map V.ref))) l (HO.lst (qs'.map V.ref))) l (HO.lst (qs''.map V.ref)) = G2 at *
        have a1 := sT _ _ hp
        have a2 := sT _ _ hp'
        have a3 := sT _ _ hp''
        refine ⟨p'', rfl, _, a3, _, atI_nat (j := 0) rfl, p', rfl, _, a2, _, atI_nat (j := 0) rfl, p, rfl, _, a1, _, atI_nat (j := 0) rfl, small (by decide), fun p3 hp3 => ?_⟩
        have t3 := same_new hp3 (HO.tup [V.str (Str.ofString "pick"), V.ref qc, V.ref qb, V.ref qa])
        refine ⟨p'', rfl, _, t3 _ _ a3, _, atI_nat (j := 1) rfl, small (by decide), fun p4 hp4 => ?_⟩
        have t4 := same_new hp4 (HO.tup [V.ref p3, V.int f''.2])
        have t14 := t3.trans t4
        have hl4 := t14 _ _ hlx
        have gl := fi.1
        have sT4 := sT.trans (.of t14)
        refine ⟨_, hl4, by rw [List.length_map, gl]; simp only [List.length_append, List.length_singleton] at f100; exact small1000 (by omega), ?_⟩
        have gf := gd f (by simp)
        have gf' := gd f' (by simp)
        have gf'' := gd f'' (by simp)
        rw [tot_snoc, tot_snoc, tot_snoc] at tot
        refine q _ (is ++ [(.pick f''.1 f'.1 f.1, f''.2)]) (qs'' ++ [p4]) (fun b u n e => sb _ b u n (t14 _ _ (sB b u n e))) (by rw [upd_same, List.map_append]; rfl) (((fi.sameT sT4).snoc (f := (.pick f''.1 f'.1 f.1, f''.2)) ⟨p3, upd_same, qc, qb, qa, t4 _ _ upd_same, tp''.sameT sT4, tp'.sameT sT4, tp.sameT sT4⟩).sameT (sl hl4)) (by simp) (by simp only [List.length_append, List.length_singleton]; omega) (fun g hg => ?_) (by rw [tot_snoc]; show totF is + (sizeT f''.1 + sizeT f'.1 + sizeT f.1 + 1) ≤ n + 1; omega)
        rcases List.mem_append.mp hg with hg | hg
        · exact (gd g (by simp [hg])).mono (by omega)
        · cases List.mem_singleton.mp hg
          refine ⟨by show sizeT f''.1 + sizeT f'.1 + sizeT f.1 + 1 ≤ n + 1; omega, fun s hs => ?_, gf''.2.2.1, gf''.2.2.2⟩
          rcases List.mem_append.mp hs with hs | hs
          · exact gf''.2.1 s hs
          · rcases List.mem_append.mp hs with hs | hs
            · exact gf'.2.1 s hs
            · exact gf.2.1 s hs
      · rw [if_neg b2]
        by_cases w2 : 2 < w
        · rw [if_pos w2]
          obtain ⟨gs, f, qs, p, qa, rfl, e1, e2, fg, hp, tp⟩ := pops ft f1
          refine ⟨_, hl, _, e1, ⟨_, rfl⟩, ?_⟩
          rw [e2]
          have sT := sl (o := HO.lst (qs.map V.ref)) hl
          have hp1 := sT _ _ hp
          have gf := gd f (by simp)
          rw [tot_snoc] at tot
          refine ⟨p, rfl, _, hp1, _, atI_nat (j := 0) rfl, p, rfl, _, hp1, _, atI_nat (j := 1) rfl, f.2, qa, rfl, rfl, f.1, tp.sameT sT, gf.2.1, gf.2.2.1, gf.2.2.2, fun H1 p1 f' s1 pr g1 => ?_⟩
          have hl1 := s1 _ _ (upd_same (H := G') (a := l) (o := HO.lst (qs.map V.ref)))
          have gl := fg.1
          refine ⟨_, hl1, by rw [List.length_map, gl]; rw [List.length_append, List.length_singleton] at f100; exact small1000 (by omega), ?_⟩
          refine q _ (gs ++ [f']) (qs ++ [p1]) (fun b u n e => sb _ b u n (s1 _ _ (sb _ b u n e))) (by rw [upd_same, List.map_append]; rfl) (((fg.sameT (sT.trans (.of s1))).snoc pr).sameT (sl hl1)) (by simp) (by simp) (fun g hg => ?_) (by rw [tot_snoc]; have := g1.1; omega)
          rcases List.mem_append.mp hg with hg | hg
          · exact (gd g (List.mem_append_left _ hg)).mono (by omega)
          · cases List.mem_singleton.mp hg; exact g1.mono (by have := gf.1; omega)
        · rw [if_neg w2]
          exact leafB
    · rw [if_neg w7]
      by_cases w2 : 2 < w
      · rw [if_pos w2]
        obtain ⟨gs, f, qs, p, qa, rfl, e1, e2, fg, hp, tp⟩ := pops ft f1
        refine ⟨_, hl, _, e1, ⟨_, rfl⟩, ?_⟩
        rw [e2]
        have sT := sl (o := HO.lst (qs.map V.ref)) hl
        have hp1 := sT _ _ hp
        have gf := gd f (by simp)
        rw [tot_snoc] at tot
        refine ⟨p, rfl, _, hp1, _, atI_nat (j := 0) rfl, p, rfl, _, hp1, _, atI_nat (j := 1) rfl, f.2, qa, rfl, rfl, f.1, tp.sameT sT, gf.2.1, gf.2.2.1, gf.2.2.2, fun H1 p1 f' s1 pr g1 => ?_⟩
        have hl1 := s1 _ _ (upd_same (H := G') (a := l) (o := HO.lst (qs.map V.ref)))
        have gl := fg.1
        refine ⟨_, hl1, by rw [List.length_map, gl]; rw [List.length_append, List.length_singleton] at f100; exact small1000 (by omega), ?_⟩
        refine q _ (gs ++ [f']) (qs ++ [p1]) (fun b u n e => sb _ b u n (s1 _ _ (sb _ b u n e))) (by rw [upd_same, List.map_append]; rfl) (((fg.sameT (sT.trans (.of s1))).snoc pr).sameT (sl hl1)) (by simp) (by simp) (fun g hg => ?_) (by rw [tot_snoc]; have := g1.1; omega)
        rcases List.mem_append.mp hg with hg | hg
        · exact (gd g (List.mem_append_left _ hg)).mono (by omega)
        · cases List.mem_singleton.mp hg; exact g1.mono (by have := gf.1; omega)
      · rw [if_neg w2]
        exact leafB
end
abbrev slawtrees : Stmt := top 11
def splawtrees : PySem.W.Frag → Sp := fun K => fun vs H Q _ => ∃ (a : Addr) (ns : List Int), vs = [.ref a, .int 60] ∧ SqL K H a (ns.map V.int) ∧ ns.length ≤ 63 ∧ ∀ H' l ts ps, Same H H' → H' l = some (.lst (ps.map V.ref)) → TrsAt H' ts ps → (∀ t ∈ ts, sizeT t ≤ 63 ∧ StOk t) → ts.length ≤ 100 → Q (.ref l) H'
section
variable {P : Program} {w : World} {K : PySem.W.Frag} {mg : Str → Option Value} {base : Heap} {f : Addr} {fd : FuncData}
theorem sclawtrees : FnScope ["script", "most", "trees", "cell", "done", "tree", "inner"] ["script", "most"] (defScope slawtrees) := ⟨rfl, rfl, rfl, by decide +kernel, rfl, by decide +kernel, by decide +kernel⟩
theorem oklawtrees (F : Fun K "_law_trees" "_law_trees" slawtrees f fd) (clawdeed : Callee P w K mg base CX0 (3) "_law_deed" ["trees", "cell"] splawdeed) : FnOk P w K mg base CX0 (4) f fd ["script", "most"] (splawtrees K) := by
  have sc := sclawtrees
  refine F.ok sc (fun vs H Q E h => ?_) (fun cdv A outer s H vs Q E hr h => ?_)
  · obtain ⟨a, ns, rfl, _⟩ := h; rfl
  obtain ⟨a, ns, rfl, hS, h63, q⟩ := h
  refine ⟨_, (@pss_cons _ _ _ _ _ (@ps_set _ _ 2 _ _ _ _ sc.nd rfl (by first | exact Or.inl rfl | exact Or.inr rfl) (@pe0trees _) (by rfl) (by first | exact Or.inl rfl | exact Or.inr rfl)) (pss_cons (ps_for PassesOwn.never rfl (pi_list (pe_slice sl_list (pv 0) po_none (po_some (pv 1)))) (pg_name (i := 3) sc.nd rfl (Or.inl rfl)) (pss_one (ps_expr (pe_cal clawdeed hr (by rfl) pass0 (pa_cons (pv 2) (pa_cons (pe_op op_mod (pv 3) (pe_op op_pow pe_int pe_int)) pa_nil)))))) (pss_cons (ps_set (i := 4) sc.nd rfl (by first | exact Or.inl rfl | exact Or.inr rfl) (pe_lst pa_nil)) (pss_cons (ps_for PassesOwn.never rfl (pi_list (pv 2)) (pg_tupH (n := 2) (pg_tup rfl (pgs_cons (pg_name (i := 5) sc.nd rfl (Or.inl rfl)) (pgs_cons (pg_name (i := 6) sc.nd rfl (Or.inl rfl)) pgs_nil)))) (pss_cons (ps_while PassesOwn.never (pt_cmpR op_gt (pv 6) pe_int (nomark _)) (pss_cons (ps_set (i := 6) sc.nd rfl (by first | exact Or.inl rfl | exact Or.inr rfl) (pe_op op_sub (pv 6) pe_int)) (pss_one (ps_set (i := 5) sc.nd rfl (by first | exact Or.inl rfl | exact Or.inr rfl) (pe_tup (pa_cons pe_str (pa_cons pe_str (pa_cons pe_int (pa_cons (pv 5) pa_nil))))))))) (pss_one (ps_expr (pe_app (pv 4) (pv 5)))))) (pss_one (ps_ret (pv 4))))))), ?_⟩
  simp only [L2.start, List.length_cons, List.length_nil, List.replicate, List.cons_append, List.nil_append, Nat.reduceSub, Nat.reduceAdd, List.map_cons, List.map_nil]
  refine seq_with (fun σ G => ∃ l0 p0 q0 x0, σ = [some (.ref a), some (.int 60), some (.ref l0), none, none, none, none] ∧ Same H G ∧ H l0 = none ∧ G l0 = some (.lst [.ref p0]) ∧ G p0 = some (.tup [.ref q0, .int 2]) ∧ G q0 = some (.tup [.str "read", .int 1, .int 16, x0])) ?_ (fun R hR => ?_)
  rotate_left
  · wp_walk using tSeq, inV, eqV
    refine ⟨small (by decide), fun p hp => ⟨small (by decide), fun p1 hp1 => ⟨small (by decide), fun p2 hp2 => ⟨small (by decide), fun p3 hp3 => hR _ _ ⟨p3, p2, p1, .ref p, rfl, ?_, ?_, upd_same, ?_, ?_⟩⟩⟩⟩⟩
    · exact (((same_new hp _).trans (same_new hp1 _)).trans (same_new hp2 _)).trans (same_new hp3 _)
    · exact (((same_new hp _).trans (same_new hp1 _)).trans (same_new hp2 _)).free hp3
    · exact same_new hp3 _ _ _ upd_same
    · exact same_new hp3 _ _ _ (same_new hp2 _ _ _ upd_same)
  rintro σ1 G ⟨l0, p0, q0, x0, rfl, s1, l00, g1, g2, g3⟩
  refine seq_with (fun σ G2 => ∃ y3 fs ps, σ = [some (.ref a), some (.int 60), some (.ref l0), y3, none, none, none] ∧ Same H G2 ∧ G2 l0 = some (.lst (ps.map V.ref)) ∧ FsAt G2 fs ps ∧ fs.length ≤ 61 ∧ (∀ f ∈ fs, GdF 61 f)) ?_ (fun R hR => ?_)
  rotate_left
  · wp_walk using tSeq, inV, eqV, rSlL
    refine ⟨_, s1.seq hS, fun e he => ?_⟩
    rw [show cutV (ns.map V.int) none (some 60) = (ns.take 60).map V.int from cut_any ns 60]
    have el : e ≠ l0 := fun z => by rw [z, g1] at he; cases he
    have tl : (ns.take 60).length ≤ 60 := by rw [List.length_take]; omega
    refine LoopL.mk (xs := (ns.take 60).map V.int) (.of upd_same) (fun i σ G2 => ∃ y3 fs ps, σ = [some (.ref a), some (.int 60), some (.ref l0), y3, none, none, none] ∧ Same H G2 ∧ G2 e = some (.lst ((ns.take 60).map V.int)) ∧ G2 l0 = some (.lst (ps.map V.ref)) ∧ FsAt G2 fs ps ∧ 1 ≤ fs.length ∧ fs.length ≤ i + 1 ∧ (∀ f ∈ fs, GdF (i + 1) f) ∧ totF fs ≤ i + 1) ?_ (fun i σ G2 _ h => by obtain ⟨_, _, _, _, _, ge, _⟩ := h; exact .of ge) (fun i x σ G2 ex h => ?_) (fun σ G2 h => ?_)
    · have t1 := same_new he (HO.lst ((ns.take 60).map V.int))
      refine ⟨_, [(.leaf (some 1), 2)], [p0], rfl, s1.trans t1, upd_same, t1 _ _ g1, ⟨rfl, fun i f e => ?_⟩, by simp, by simp, fun f hf => ?_, by simp [totF, sizeT]⟩
      · cases i with
        | zero => cases (Option.some.inj e); exact ⟨p0, rfl, q0, t1 _ _ g2, _, t1 _ _ g3⟩
        | succ i => simp at e
      · cases List.mem_singleton.mp hf
        exact ⟨by simp [sizeT], fun s hs => by simp [storesT] at hs; subst hs; exact three _ (by decide) (by decide), by decide, by decide⟩
    · obtain ⟨y3, fs, ps, rfl, sG, ge, gl, ft, f1, fl, gd, tot⟩ := h
      obtain ⟨n, _, rfl⟩ := getmap ex
      have il : i < 60 := by have := (List.getElem?_eq_some_iff.mp ex).1; rw [List.length_map] at this; omega
      wp_walk using tSeq, inV, eqV, splawdeed
      exact ⟨i + 1, fs, ps, gl, ft, f1, by omega, gd, tot, fun G3 fs' ps' sb e1 e2 e3 e4 e5 e6 => ⟨fun b o e => sb b o (fun z => by rw [z, l00] at e; cases e) (sG _ _ e), sb e _ el ge, fs', ps', e1, e2, e3, by omega, e5, by omega⟩⟩
    · obtain ⟨y3, fs, ps, rfl, sG, ge, gl, ft, f1, fl, gd, tot⟩ := h
      rw [List.length_map] at fl gd
      exact hR _ _ ⟨y3, fs, ps, rfl, sG, gl, ft, by omega, fun f hf => (gd f hf).mono (by omega)⟩
  clear g1 g2 g3 s1
  rintro σ2 G2 ⟨y3, fs, ps, rfl, s2, gl, ft, fl, gd⟩
  refine seq_with (fun σ G3 => ∃ dl, σ = [some (.ref a), some (.int 60), some (.ref l0), y3, some (.ref dl), none, none] ∧ Same G2 G3 ∧ G2 dl = none ∧ G3 dl = some (.lst [])) ?_ (fun R hR => ?_)
  rotate_left
  · wp_walk using tSeq, inV, eqV
    exact ⟨small (by decide), fun p hp => hR _ _ ⟨p, rfl, same_new hp _, hp, upd_same⟩⟩
  rintro σ3 G3 ⟨dl, rfl, s3, dl0, g3⟩
  have same : ∀ {G : Hp}, Same G2 G → ∀ o, Same G2 (upd G dl o) := fun {G} sg o c u e => by rw [upd_ne (fun z => by rw [z, dl0] at e; cases e)]; exact sg _ _ e
  refine seq_with (fun σ G4 => ∃ (y5 y6 : Option V) (ts : List Tr) (qs : List Addr), σ = [some (.ref a), some (.int 60), some (.ref l0), y3, some (.ref dl), y5, y6] ∧ Same G2 G4 ∧ G4 dl = some (.lst (qs.map V.ref)) ∧ TrsAt G4 ts qs ∧ ts.length ≤ 61 ∧ ∀ t ∈ ts, sizeT t ≤ 63 ∧ StOk t) ?_ (fun R hR => ?_)
  rotate_left
  · wp_walk using inV, eqV
    refine LoopL.mk (xs := ps.map V.ref) (.of (s3 _ _ gl)) (fun i σ G4 => ∃ (y5 y6 : Option V) (ts : List Tr) (qs : List Addr), σ = [some (.ref a), some (.int 60), some (.ref l0), y3, some (.ref dl), y5, y6] ∧ Same G2 G4 ∧ G4 dl = some (.lst (qs.map V.ref)) ∧ TrsAt G4 ts qs ∧ ts.length = i ∧ ∀ t ∈ ts, sizeT t ≤ 63 ∧ StOk t) ⟨_, _, [], [], rfl, s3, g3, .nil, rfl, fun t h => nomatch h⟩ (fun i σ G4 _ h => by obtain ⟨_, _, _, _, _, sG, _⟩ := h; exact .of (sG _ _ gl)) (fun i x σ G4 ex h => ?_) (fun σ G4 h => ?_)
    · obtain ⟨y5, y6, ts, qs, rfl, sG, gd4, tr, tl, ok⟩ := h
      have il : i < fs.length := by have := (List.getElem?_eq_some_iff.mp ex).1; rw [List.length_map, ft.1] at this; exact this
      obtain ⟨p, ep, q0, hq, tq⟩ := ft.2 i _ (List.getElem?_eq_getElem il)
      rw [List.getElem?_map, ep] at ex
      cases (Option.some.inj ex)
      have gf := gd fs[i] (List.getElem_mem il)
      generalize fs[i] = f at *
      wp_walk using inV, eqV
      refine ⟨_, sG _ _ hq, rfl, _, _, rfl, _, _, rfl, rfl, ?_⟩
      refine seq_with (fun σ G5 => ∃ (q : Addr) (t : Tr) (y6 : Option V), σ = [some (.ref a), some (.int 60), some (.ref l0), y3, some (.ref dl), some (.ref q), y6] ∧ Same G4 G5 ∧ TrAt G5 t q ∧ sizeT t ≤ 63 ∧ StOk t) ?_ (fun R hR => ?_)
      rotate_left
      · refine ⟨fun m σ G5 => ∃ (q : Addr) (t : Tr) (v : Int), σ = [some (.ref a), some (.int 60), some (.ref l0), y3, some (.ref dl), some (.ref q), some (.int v)] ∧ Same G4 G5 ∧ TrAt G5 t q ∧ 0 ≤ v ∧ (sizeT t : Int) + v ≤ 63 ∧ StOk t ∧ m = v.toNat, ⟨_, q0, f.1, f.2, rfl, Same.refl _, tq.same sG, gf.2.2.1, by have := gf.1; have := gf.2.2.2; omega, gf.2.1, rfl⟩, ?_⟩
        rintro m σ G5 ⟨q, t, v, rfl, s5, tt, v0, vs, so, rfl⟩
        wp_walk using tSeq, inV, eqV
        by_cases c : 0 < v
        · rw [if_pos c]
          refine ⟨fun σ' H' => ∃ m', m' < v.toNat ∧ _, fun σ' H' h => h, small (by decide), fun p hp => ?_⟩
          exact ⟨(v - 1).toNat, by omega, p, .fold 2 t, v - 1, rfl, s5.trans (same_new hp _), ⟨_, q, upd_same, tt.same (same_new hp _), by decide, by decide⟩, by omega, by show ((sizeT t + 1 : Nat) : Int) + (v - 1) ≤ 63; omega, so, rfl⟩
        · rw [if_neg c]
          exact hR _ _ ⟨q, t, _, rfl, s5, tt, by omega, so⟩
      rintro σ5 G5 ⟨q, t, y6, rfl, s5, tt, t63, so⟩
      wp_walk using tSeq, inV, eqV
      have gd5 := s5 _ _ gd4
      refine ⟨⟨_, gd5⟩, _, gd5, by rw [List.length_map, tr.1, tl]; exact small1000 (by omega), same (sG.trans s5) _, ts ++ [t], qs ++ [q], by rw [List.map_append]; rfl, ?_, by simp [tl], fun u hu => ?_⟩
      · exact ((tr.sameT (.of s5)).app (trs1 tt)).sameT (SameT.no (fun xs z => by rw [gd5] at z; cases z))
      · rcases List.mem_append.mp hu with hu | hu
        · exact ok u hu
        · cases List.mem_singleton.mp hu; exact ⟨t63, so⟩
    · obtain ⟨y5, y6, ts, qs, rfl, sG, gd4, tr, tl, ok⟩ := h
      rw [List.length_map, ft.1] at tl
      exact hR _ _ ⟨y5, y6, ts, qs, rfl, sG, gd4, tr, by omega, ok⟩
  rintro σ4 G4 ⟨y5, y6, ts, qs, rfl, sG, gd4, tr, tl, ok⟩
  wp_walk using tSeq, inV, eqV
  exact q _ _ ts qs (s2.trans sG) gd4 tr ok (by omega)
end
abbrev slawparts : Stmt := top 12
def splawparts : Sp := fun vs H Q _ => ∃ (a : Addr) (t : Tr), vs = [.ref a] ∧ TrAt H t a ∧ ∀ H' p ps, Same H H' → H' p = some (.lst (ps.map V.ref)) → TrsAt H' (kids t) ps → Q (.ref p) H'
section
variable {P : Program} {w : World} {K : PySem.W.Frag} {mg : Str → Option Value} {base : Heap} {f : Addr} {fd : FuncData}
theorem sclawparts : FnScope ["tree"] ["tree"] (defScope slawparts) := ⟨rfl, rfl, rfl, by decide +kernel, rfl, by decide +kernel, by decide +kernel⟩
theorem oklawparts (F : Fun K "_law_parts" "_law_parts" slawparts f fd) : FnOk P w K mg base CX0 (1) f fd ["tree"] (splawparts) := by
  have sc := sclawparts
  refine F.ok sc (fun vs H Q E h => ?_) (fun cdv A outer s H vs Q E hr h => ?_)
  · obtain ⟨a, t, rfl, _⟩ := h; rfl
  obtain ⟨a, t, rfl, ht, q⟩ := h
  refine ⟨_, (pss_cons (ps_if (pt_cmpR op_inT (pe_ix ix_tupH (pv 0) pe_int (fun _ _ => rfl)) (pe_tup (pa_cons pe_str (pa_cons pe_str (pa_cons pe_str pa_nil)))) rfl) (pss_one (ps_ret (pe_lst pa_nil))) pss_nil) (pss_cons (ps_if (pt_cmpR op_eq (pe_ix ix_tupH (pv 0) pe_int (fun _ _ => rfl)) pe_str (nomark _)) (pss_one (ps_ret (pe_lst (pa_cons (pe_ix ix_tupH (pv 0) pe_int (fun _ _ => rfl)) (pa_cons (pe_ix ix_tupH (pv 0) pe_int (fun _ _ => rfl)) pa_nil))))) pss_nil) (pss_cons (ps_if (pt_cmpR op_eq (pe_ix ix_tupH (pv 0) pe_int (fun _ _ => rfl)) pe_str (nomark _)) (pss_one (ps_ret (pe_lst (pa_cons (pe_ix ix_tupH (pv 0) pe_int (fun _ _ => rfl)) (pa_cons (pe_ix ix_tupH (pv 0) pe_int (fun _ _ => rfl)) (pa_cons (pe_ix ix_tupH (pv 0) pe_int (fun _ _ => rfl)) pa_nil)))))) pss_nil) (pss_one (ps_ret (pe_lst (pa_cons (pe_ix ix_tupH (pv 0) (pe_un un_neg pe_int) (fun _ _ => rfl)) pa_nil))))))), ?_⟩
  wp_walk using tSeq, inV, eqV
  cases t with
  | leaf o =>
    cases o with
    | none =>
      obtain ⟨w, xs, e, rfl | rfl⟩ := ht
      · refine ⟨_, e, _, atI_nat (j := 0) rfl, small (by decide), fun p0 hp0 => ⟨rfl, ?_⟩⟩
        rw [if_pos (.inl (by decide +kernel))]
        exact ⟨small (by decide), fun p1 hp1 => q _ _ [] ((same_new hp0 _).trans (same_new hp1 _)) upd_same TrsAt.nil⟩
      · refine ⟨_, e, _, atI_nat (j := 0) rfl, small (by decide), fun p0 hp0 => ⟨rfl, ?_⟩⟩
        rw [if_pos (.inr (.inl (by decide +kernel)))]
        exact ⟨small (by decide), fun p1 hp1 => q _ _ [] ((same_new hp0 _).trans (same_new hp1 _)) upd_same TrsAt.nil⟩
    | some s =>
      obtain ⟨xs, e⟩ := ht
      refine ⟨_, e, _, atI_nat (j := 0) rfl, small (by decide), fun p0 hp0 => ⟨rfl, ?_⟩⟩
      rw [if_pos (.inr (.inr (by decide +kernel)))]
      exact ⟨small (by decide), fun p1 hp1 => q _ _ [] ((same_new hp0 _).trans (same_new hp1 _)) upd_same TrsAt.nil⟩
  | each t =>
    obtain ⟨w, p, e, ht⟩ := ht
    refine ⟨_, e, _, atI_nat (j := 0) rfl, small (by decide), fun p0 hp0 => ⟨rfl, ?_⟩⟩
    rw [if_neg (by decide +kernel)]
    have e0 := same_new hp0 (HO.tup [V.str (Str.ofString "num"), V.str (Str.ofString "index"), V.str (Str.ofString "read")]) _ _ e
    refine ⟨_, e0, _, atI_nat (j := 0) rfl, rfl, ?_⟩
    rw [if_neg (sne (by decide +kernel))]
    refine ⟨_, e0, _, atI_nat (j := 0) rfl, rfl, ?_⟩
    rw [if_neg (sne (by decide +kernel))]
    exact ⟨_, e0, V.ref p, rfl, small (by decide), fun p1 hp1 => q _ _ [p] ((same_new hp0 _).trans (same_new hp1 _)) upd_same (trs1 (ht.same ((same_new hp0 _).trans (same_new hp1 _))))⟩
  | pair t u =>
    obtain ⟨w, p, p2, e, ht, hu⟩ := ht
    refine ⟨_, e, _, atI_nat (j := 0) rfl, small (by decide), fun p0 hp0 => ⟨rfl, ?_⟩⟩
    rw [if_neg (by decide +kernel)]
    have e0 := same_new hp0 (HO.tup [V.str (Str.ofString "num"), V.str (Str.ofString "index"), V.str (Str.ofString "read")]) _ _ e
    refine ⟨_, e0, _, atI_nat (j := 0) rfl, rfl, ?_⟩
    rw [if_pos rfl]
    exact ⟨_, e0, _, atI_nat (j := 2) rfl, _, e0, _, atI_nat (j := 3) rfl, small (by decide), fun p1 hp1 => q _ _ [p, p2] ((same_new hp0 _).trans (same_new hp1 _)) upd_same (trs_cons (ht.same ((same_new hp0 _).trans (same_new hp1 _))) (trs1 (hu.same ((same_new hp0 _).trans (same_new hp1 _)))))⟩
  | pick t u v =>
    obtain ⟨p, p2, p3, e, ht, hu, hv⟩ := ht
    refine ⟨_, e, _, atI_nat (j := 0) rfl, small (by decide), fun p0 hp0 => ⟨rfl, ?_⟩⟩
    rw [if_neg (by decide +kernel)]
    have e0 := same_new hp0 (HO.tup [V.str (Str.ofString "num"), V.str (Str.ofString "index"), V.str (Str.ofString "read")]) _ _ e
    refine ⟨_, e0, _, atI_nat (j := 0) rfl, rfl, ?_⟩
    rw [if_neg (sne (by decide +kernel))]
    refine ⟨_, e0, _, atI_nat (j := 0) rfl, rfl, ?_⟩
    rw [if_pos rfl]
    exact ⟨_, e0, _, atI_nat (j := 1) rfl, _, e0, _, atI_nat (j := 2) rfl, _, e0, _, atI_nat (j := 3) rfl, small (by decide), fun p1 hp1 => q _ _ [p, p2, p3] ((same_new hp0 _).trans (same_new hp1 _)) upd_same (trs_cons (ht.same ((same_new hp0 _).trans (same_new hp1 _))) (trs_cons (hu.same ((same_new hp0 _).trans (same_new hp1 _))) (trs1 (hv.same ((same_new hp0 _).trans (same_new hp1 _))))))⟩
  | fetch s t =>
    obtain ⟨x2, x3, x4, x5, p, e, ht⟩ := ht
    refine ⟨_, e, _, atI_nat (j := 0) rfl, small (by decide), fun p0 hp0 => ⟨rfl, ?_⟩⟩
    rw [if_neg (by decide +kernel)]
    have e0 := same_new hp0 (HO.tup [V.str (Str.ofString "num"), V.str (Str.ofString "index"), V.str (Str.ofString "read")]) _ _ e
    refine ⟨_, e0, _, atI_nat (j := 0) rfl, rfl, ?_⟩
    rw [if_neg (sne (by decide +kernel))]
    refine ⟨_, e0, _, atI_nat (j := 0) rfl, rfl, ?_⟩
    rw [if_neg (sne (by decide +kernel))]
    exact ⟨_, e0, V.ref p, rfl, small (by decide), fun p1 hp1 => q _ _ [p] ((same_new hp0 _).trans (same_new hp1 _)) upd_same (trs1 (ht.same ((same_new hp0 _).trans (same_new hp1 _))))⟩
  | fold n t =>
    obtain ⟨w, p, e, ht, _⟩ := ht
    refine ⟨_, e, _, atI_nat (j := 0) rfl, small (by decide), fun p0 hp0 => ⟨rfl, ?_⟩⟩
    rw [if_neg (by decide +kernel)]
    have e0 := same_new hp0 (HO.tup [V.str (Str.ofString "num"), V.str (Str.ofString "index"), V.str (Str.ofString "read")]) _ _ e
    refine ⟨_, e0, _, atI_nat (j := 0) rfl, rfl, ?_⟩
    rw [if_neg (sne (by decide +kernel))]
    refine ⟨_, e0, _, atI_nat (j := 0) rfl, rfl, ?_⟩
    rw [if_neg (sne (by decide +kernel))]
    exact ⟨_, e0, V.ref p, rfl, small (by decide), fun p1 hp1 => q _ _ [p] ((same_new hp0 _).trans (same_new hp1 _)) upd_same (trs1 (ht.same ((same_new hp0 _).trans (same_new hp1 _))))⟩
end
abbrev slawwhole : Stmt := top 13
def splawwhole : Sp := fun vs H Q _ => ∃ (n : Int), vs = [.int n] ∧ Q (.bl true) H
section
variable {P : Program} {w : World} {K : PySem.W.Frag} {mg : Str → Option Value} {base : Heap} {f : Addr} {fd : FuncData}
theorem sclawwhole : FnScope ["found"] ["found"] (defScope slawwhole) := ⟨rfl, rfl, rfl, by decide +kernel, rfl, by decide +kernel, by decide +kernel⟩
theorem oklawwhole (F : Fun K "_law_whole" "_law_whole" slawwhole f fd) (zisinstance : mg "isinstance" = none) (zint : mg "int" = none) (zbool : mg "bool" = none) : FnOk P w K mg base CX0 (1) f fd ["found"] (splawwhole) := by
  have sc := sclawwhole
  refine F.ok sc (fun vs H Q E h => ?_) (fun cdv A outer s H vs Q E hr h => ?_)
  · obtain ⟨n, rfl, _⟩ := h; rfl
  obtain ⟨n, rfl, q⟩ := h
  refine ⟨_, (pss_one (ps_ret (pe_and (pe_callB call_isiS (by rfl) zisinstance boot_isinstance (pa_cons (pv 0) (pa_cons (pe_bltn (v := .ty "int") (by rfl) zint boot_int rfl) pa_nil))) (pe_one (pe_not (pe_callB call_isiS (by rfl) zisinstance boot_isinstance (pa_cons (pv 0) (pa_cons (pe_bltn (v := .ty "bool") (by rfl) zbool boot_bool rfl) pa_nil)))))))), ?_⟩
  wp_walk using tSeq, inV, eqV
  exact q
end
abbrev slawlooked : Stmt := top 14
def splawlooked : Nat → Sp := fun d => match d with | 0 => fun _ _ _ _ => False | d + 1 => fun vs H Q _ => ∃ (a : Addr) (t : Tr), vs = [.ref a] ∧ TrAt H t a ∧ depthT t ≤ d ∧ depthT t ≤ 63 ∧ sizeT t ≤ 900 ∧ StOk t ∧ ∀ H' p m kvs L, Same H H' → H m = none → H' p = some (.tup [.int (callsT t), .ref m]) → H' m = some (.dK kvs) → KeyS kvs L → (∀ s, s ∈ L ↔ s ∈ storesT t) → Q (.ref p) H'
section
variable {P : Program} {w : World} {K : PySem.W.Frag} {mg : Str → Option Value} {base : Heap} {f : Addr} {fd : FuncData}
theorem sclawlooked : FnScope ["tree", "due", "marks", "part", "found", "plain", "told", "stores"] ["tree"] (defScope slawlooked) := ⟨rfl, rfl, rfl, by decide +kernel, rfl, by decide +kernel, by decide +kernel⟩
theorem oklawlooked (F : Fun K "_law_looked" "_law_looked" slawlooked f fd) {d0 : Nat} (clawparts : Callee P w K mg base CX0 (d0 + 68) "_law_parts" ["tree"] splawparts) (clawwhole : Callee P w K mg base CX0 (d0 + 68) "_law_whole" ["found"] splawwhole) (ccallsof : Callee P w K mg base CX0 (d0 + 68) "calls_of" ["tree"] (spcallsof 66)) (cstoresof : Callee P w K mg base CX0 (d0 + 68) "stores_of" ["tree"] spstoresof) (cisfree : Callee P w K mg base CX0 (d0 + 68) "is_free" ["tree"] spisfree) (clawlooked : Callee P w K mg base CX0 (d0 + 68) "_law_looked" ["tree"] (splawlooked d0)) (zisinstance : mg "isinstance" = none) (zlist : mg "list" = none) (zsorted : mg "sorted" = none) : FnOk P w K mg base CX0 (d0 + 69) f fd ["tree"] (splawlooked (d0 + 1)) := by
  have sc := sclawlooked
  refine F.ok sc (fun vs H Q E h => ?_) (fun cdv A outer s H vs Q E hr h => ?_)
  · obtain ⟨a, t, rfl, _⟩ := h; rfl
  obtain ⟨a, t, rfl, ht, hd, d63, sz, so, q⟩ := h
  refine ⟨_, (pss_cons (ps_set (i := 1) sc.nd rfl (by first | exact Or.inl rfl | exact Or.inr rfl) pe_int) (pss_cons (ps_set (i := 2) sc.nd rfl (by first | exact Or.inl rfl | exact Or.inr rfl) pe_dnewK) (pss_cons (ps_if (pw_or (pt_cmpR op_eq (pe_ix ix_tupH (pv 0) pe_int (fun _ _ => rfl)) pe_str (nomark _)) (pw_or1 (pt_cmpR op_eq (pe_ix ix_tupH (pv 0) pe_int (fun _ _ => rfl)) pe_str (nomark _)))).pt (pss_one (ps_dput (hu1 hr) (pv 2) (pe_ix ix_tupH (pv 0) pe_int (fun _ _ => rfl)) pe_bl rfl)) pss_nil) (pss_cons (ps_for PassesOwn.never rfl (pi_list (pe_cal clawparts hr (by rfl) pass0 (pa_cons (pv 0) pa_nil))) (pg_name (i := 3) sc.nd rfl (Or.inl rfl)) (pss_cons (ps_set (i := 4) sc.nd rfl (by first | exact Or.inl rfl | exact Or.inr rfl) (pe_cal clawlooked hr (by rfl) pass0 (pa_cons (pv 3) pa_nil))) (pss_cons (ps_if (pt_cmpR op_isN (pv 4) pe_non (nomark _)) (pss_one (ps_ret pe_non)) pss_nil) (pss_cons (ps_set (i := 1) sc.nd rfl (by first | exact Or.inl rfl | exact Or.inr rfl) (pe_op op_add (pv 1) (pe_ix ix_tupH (pv 4) pe_int (fun _ _ => rfl)))) (pss_one (ps_expr (pe_bm PySem.F.plainAttrs_dict PySem.F.slot_dict_update PySem.F.type_dict_update mt_update (pv 2) (pa_cons (pe_ix ix_tupH (pv 4) pe_int (fun _ _ => rfl)) pa_nil)))))))) (pss_cons (ps_set (i := 5) sc.nd rfl (by first | exact Or.inl rfl | exact Or.inr rfl) (pe_cmpR op_inT (pe_ix ix_tupH (pv 0) pe_int (fun _ _ => rfl)) (pe_tup (pa_cons pe_str (pa_cons pe_str (pa_cons pe_str pa_nil)))) rfl)) (pss_cons (ps_if (pt_not (pt_val (pv 5))) (pss_one (ps_set (i := 1) sc.nd rfl (by first | exact Or.inl rfl | exact Or.inr rfl) (pe_op op_add (pv 1) pe_int))) pss_nil) (pss_cons (ps_if (pt_cmpR op_eq (pe_ix ix_tupH (pv 0) pe_int (fun _ _ => rfl)) pe_str (nomark _)) (pss_one (ps_set (i := 1) sc.nd rfl (by first | exact Or.inl rfl | exact Or.inr rfl) (pe_op op_mul (pv 1) (pe_ix ix_tupH (pv 0) pe_int (fun _ _ => rfl))))) pss_nil) (pss_cons (ps_set (i := 6) sc.nd rfl (by first | exact Or.inl rfl | exact Or.inr rfl) (pe_cal ccallsof hr (by rfl) pass0 (pa_cons (pv 0) pa_nil))) (pss_cons (ps_set (i := 7) sc.nd rfl (by first | exact Or.inl rfl | exact Or.inr rfl) (pe_cal cstoresof hr (by rfl) pass0 (pa_cons (pv 0) pa_nil))) (pss_cons (ps_if (pw_or (pt_not (pt_val (pe_cal clawwhole hr (by rfl) pass0 (pa_cons (pv 6) pa_nil)))) (pw_or (pt_cmpR op_ne (pv 6) (pv 1) (nomark _)) (pw_or (pt_not (pt_val (pe_callB call_isiLL (by rfl) zisinstance boot_isinstance (pa_cons (pv 7) (pa_cons (pe_bltn (v := .ty "list") (by rfl) zlist boot_list rfl) pa_nil))))) (pw_or1 (pt_cmpR (op_neL hr.units0) (pv 7) (pe_callB (call_sortedD rfl) (by rfl) zsorted boot_sorted (pa_cons (pv 2) pa_nil)) (nomark _)))))).pt (pss_one (ps_ret pe_non)) pss_nil) (pss_cons (ps_if (pw_or (pw_and (pt_val (pv 5)) (pw_and1 (pt_cmpR op_notB (pe_cal cisfree hr (by rfl) pass0 (pa_cons (pv 0) pa_nil)) pe_bl (nomark _)))).pt (pw_or1 (pw_and (pt_not (pt_val (pv 5))) (pw_and1 (pt_cmpR op_notB (pe_cal cisfree hr (by rfl) pass0 (pa_cons (pv 0) pa_nil)) pe_bl (nomark _)))).pt)).pt (pss_one (ps_ret pe_non)) pss_nil) (pss_one (ps_ret (pe_tup (pa_cons (pv 1) (pa_cons (pv 2) pa_nil)))))))))))))))), ?_⟩
  simp only [L2.start, List.length_cons, List.length_nil, List.replicate, List.cons_append, List.nil_append, Nat.reduceSub, Nat.reduceAdd, List.map_cons, List.map_nil]
  have dl : depthT t ≤ 65 := by omega
  refine seq_with (fun σ G => G = H ∧ σ = [some (.ref a), some (.int 0), none, none, none, none, none, none]) ?_ (fun R hR => ?_)
  rotate_left
  · wp_walk using tSeq, inV, eqV
    exact hR _ _ ⟨rfl, rfl⟩
  rintro σ0 G0 ⟨rfl, rfl⟩
  refine seq_with (fun σ G => ∃ ma, σ = [some (.ref a), some (.int 0), some (.ref ma), none, none, none, none, none] ∧ Same G0 G ∧ G0 ma = none ∧ G ma = some (.dK [])) ?_ (fun R hR => ?_)
  rotate_left
  · wp_walk using tSeq, inV, eqV
    exact fun p hp => hR _ _ ⟨p, rfl, same_new hp _, hp, upd_same⟩
  rintro σ1 G1 ⟨ma, rfl, s1, ma0, g1⟩
  have same : ∀ {G : Hp}, Same G0 G → ∀ o, Same G0 (upd G ma o) := fun {G} sg o c u e => by rw [upd_ne (fun z => by rw [z, ma0] at e; cases e)]; exact sg _ _ e
  refine seq_with (fun σ G => ∃ kvs L, σ = [some (.ref a), some (.int 0), some (.ref ma), none, none, none, none, none] ∧ Same G0 G ∧ G ma = some (.dK kvs) ∧ KeyS kvs L ∧ ∀ s, s ∈ L ↔ s ∈ ownS t) ?_ (fun R hR => ?_)
  rotate_left
  · wp_walk using tSeq, inV, eqV
    have ht1 := ht.same s1
    rcases head_own ht1 with ⟨s, w, xs, e, hw, os⟩ | ⟨w, xs, e, n1, n2, os⟩
    · have put : ∃ x, G1 a = some (HO.tup x) ∧ ∃ x_1, atI x 1 = some x_1 ∧ ∃ H4, DPut G1 ma x_1 (V.bl true) H4 ∧ R [some (.ref a), some (.int 0), some (.ref ma), none, none, none, none, none] H4 := by
        obtain ⟨L', k', m'⟩ := KeyS.nil.put s (.bl true)
        exact ⟨_, e, _, atI_nat (j := 1) rfl, _, .inl ⟨[], .inl s, g1, rfl, small1000 (by decide), rfl⟩, hR _ _ ⟨_, L', rfl, same s1 _, upd_same, k', fun x => by rw [m', os]; simp⟩⟩
      refine ⟨_, e, _, atI_nat (j := 0) rfl, rfl, ?_⟩
      rcases hw with rfl | rfl
      · rw [if_pos rfl]; exact put
      · rw [if_neg (sne (by decide +kernel))]
        refine ⟨_, e, _, atI_nat (j := 0) rfl, rfl, ?_⟩
        rw [if_pos rfl]; exact put
    · refine ⟨_, e, _, atI_nat (j := 0) rfl, rfl, ?_⟩
      rw [if_neg (fun z => n1 (V.str.inj z))]
      refine ⟨_, e, _, atI_nat (j := 0) rfl, rfl, ?_⟩
      rw [if_neg (fun z => n2 (V.str.inj z))]
      exact hR _ _ ⟨[], [], rfl, s1, g1, .nil, fun x => by rw [os]⟩
  clear g1 s1
  rintro σ2 G2 ⟨kvs, L, rfl, s2, g2, ks, ms⟩
  have few : ∀ {u : Tr} {M : List Int}, StOk u → M.Nodup → (∀ x ∈ M, x ∈ storesT u) → M.length ≤ 3 := fun so nd h => sub_len nd fun x hx => so x (h x hx)
  refine seq_with (fun σ G => ∃ (y3 y4 : Option V) (kvs : List (Key × V)) (L : List Int), σ = [some (.ref a), some (.int (sumT (kids t))), some (.ref ma), y3, y4, none, none, none] ∧ Same G0 G ∧ G ma = some (.dK kvs) ∧ KeyS kvs L ∧ ∀ s, s ∈ L ↔ s ∈ storesT t) ?_ (fun R hR => ?_)
  rotate_left
  · wp_walk using inV, eqV, splawparts
    refine ⟨t, ht.same s2, fun G3 p ps s3 e3 tr => ?_⟩
    refine LoopL.mk (xs := ps.map V.ref) (.of e3) (fun i σ G => ∃ (y3 y4 : Option V) (kvs : List (Key × V)) (L : List Int), σ = [some (.ref a), some (.int (sumT ((kids t).take i))), some (.ref ma), y3, y4, none, none, none] ∧ Same G0 G ∧ SameB ma G3 G ∧ G ma = some (.dK kvs) ∧ KeyS kvs L ∧ ∀ s, s ∈ L ↔ s ∈ ownS t ∨ ∃ u ∈ (kids t).take i, s ∈ storesT u) ⟨_, _, kvs, L, rfl, s2.trans s3, fun b o _ e => e, s3 _ _ g2, ks, fun s => by rw [ms]; simp⟩ (fun i σ G _ h => ?_) (fun i x σ G ex h => ?_) (fun σ G h => ?_)
    · obtain ⟨_, _, _, _, _, _, sb, gm, _⟩ := h
      exact .of (sb p _ (fun z => by rw [z, s3 _ _ g2] at e3; cases e3) e3)
    · obtain ⟨y3, y4, kvs, L, rfl, sG, sb, gm, ks, ms⟩ := h
      have il : i < ps.length := by have := (List.getElem?_eq_some_iff.mp ex).1; rwa [List.length_map] at this
      have ek : (kids t)[i]? = some ((kids t)[i]'(by rw [← tr.1]; exact il)) := List.getElem?_eq_getElem _
      generalize (kids t)[i]'(by rw [← tr.1]; exact il) = u at ek
      obtain ⟨pu, epu, hu⟩ := tr.2 i u ek
      have ex' : x = V.ref pu := by rw [List.getElem?_map, epu] at ex; exact (Option.some.inj ex).symm
      subst ex'
      have um := List.mem_of_getElem? ek
      have du := kid_depth um
      have su : sizeT u ≤ 900 := by
        have := size_kids t
        have : sizeT u ≤ ((kids t).map sizeT).sum := le_sum (List.mem_map.mpr ⟨u, um, rfl⟩)
        omega
      have hu' : TrAt G u pu := hu.sameT fun b xs e => sb b _ (fun z => by rw [z, s3 _ _ g2] at e; cases e) e
      wp_walk using inV, eqV
      refine seq_with (fun σ G4 => ∃ (pf m : Addr) (kv : List (Key × V)) (M : List Int), σ = [some (.ref a), some (.int (sumT ((kids t).take i))), some (.ref ma), some (.ref pu), some (.ref pf), none, none, none] ∧ Same G G4 ∧ G4 pf = some (.tup [.int (callsT u), .ref m]) ∧ G4 m = some (.dK kv) ∧ KeyS kv M ∧ (∀ s, s ∈ M ↔ s ∈ storesT u) ∧ m ≠ ma) ?_ (fun R hR => ?_)
      rotate_left
      · wp_walk using tSeq, inV, eqV
        cases d0 with
        | zero => exact absurd hd (by omega)
        | succ d =>
          simp only [splawlooked]
          refine ⟨pu, u, rfl, hu', by omega, by omega, su, so.kid um, fun G4 pf m kv M s4 m0 e1 e2 k4 m4 => hR _ _ ⟨pf, m, kv, M, rfl, s4, e1, e2, k4, m4, fun z => by rw [z, gm] at m0; cases m0⟩⟩
      rintro σ4 G4 ⟨pf, m, kv, M, rfl, s4, e1, e2, k4, m4, ne⟩
      wp_walk using tSeq, inV, eqV
      rw [if_neg (by intro z; cases z)]
      have gm4 := s4 _ _ gm
      obtain ⟨L', k', m'⟩ := KeyS.merge k4.1 ks
      have l3 : L.length ≤ 3 := few so ks.2 fun x hx => (stores_kids t x).mpr (((ms x).mp hx).imp id fun ⟨v, hv, hs⟩ => ⟨v, List.mem_of_mem_take hv, hs⟩)
      have M3 : M.length ≤ 3 := few (so.kid um) k4.2 fun x hx => (m4 x).mp hx
      refine ⟨_, e1, _, atI_nat (j := 0) rfl, _, rfl, .inr (.inr (.inl (.inl ⟨_, gm4⟩))), _, e1, _, atI_nat (j := 1) rfl, m, rfl, fun z => ne z.symm, _, gm4, _, e2, by rw [ks.len, k4.len]; exact small (by omega), by rw [sumT_succ ek], same (sG.trans s4) _, fun b o n e => by rw [upd_ne n]; exact s4 _ _ (sb b o n e), _, rfl, L', k', fun s => ?_⟩
      rw [m', ms, m4, List.take_add_one, ek]
      constructor
      · rintro ((h | ⟨v, hv, hs⟩) | h)
        · exact .inl h
        · exact .inr ⟨v, List.mem_append_left _ hv, hs⟩
        · exact .inr ⟨u, List.mem_append_right _ (by simp), h⟩
      · rintro (h | ⟨v, hv, hs⟩)
        · exact .inl (.inl h)
        · rcases List.mem_append.mp hv with hv | hv
          · exact .inl (.inr ⟨v, hv, hs⟩)
          · have : v = u := by simpa using hv
            subst this; exact .inr hs
    · obtain ⟨y3, y4, kvs, L, rfl, sG, sb, gm, ks, ms⟩ := h
      rw [List.length_map, tr.1, List.take_length] at ms
      rw [List.length_map, tr.1, List.take_length]
      exact hR _ _ ⟨y3, y4, kvs, L, rfl, sG, gm, ks, fun s => by rw [ms, stores_kids]⟩
  clear g2 s2 ks ms
  rintro σ3 G3 ⟨y3, y4, kvs, L, rfl, s3, g3, ks, ms⟩
  refine seq_with (fun σ G => σ = [some (.ref a), some (.int (sumT (kids t))), some (.ref ma), y3, y4, some (.bl (isLeaf t)), none, none] ∧ Same G3 G) ?_ (fun R hR => ?_)
  rotate_left
  · wp_walk using tSeq
    obtain ⟨w, xs, e, hw⟩ := head_leaf (ht.same s3)
    refine ⟨_, e, _, atI_nat (j := 0) rfl, small (by decide), fun p hp => ⟨rfl, ?_⟩⟩
    rw [hw]
    exact hR _ _ ⟨rfl, same_new hp _⟩
  rintro σ4 G4 ⟨rfl, s4⟩
  refine seq_with (fun σ G => G = G4 ∧ σ = [some (.ref a), some (.int (if isLeaf t = true then 0 else 1 + sumT (kids t))), some (.ref ma), y3, y4, some (.bl (isLeaf t)), none, none]) ?_ (fun R hR => ?_)
  rotate_left
  · wp_walk using tSeq, inV, eqV
    cases hl : isLeaf t with
    | true =>
      rw [hl] at hR
      rw [if_neg (by decide)]
      rw [(leaf_calls hl).2]
      exact hR _ _ ⟨rfl, rfl⟩
    | false =>
      rw [hl] at hR
      rw [if_pos rfl, Int.add_comm]
      exact hR _ _ ⟨rfl, rfl⟩
  rintro σ5 G5 ⟨rfl, rfl⟩
  refine seq_with (fun σ G => G = G5 ∧ σ = [some (.ref a), some (.int (callsT t)), some (.ref ma), y3, y4, some (.bl (isLeaf t)), none, none]) ?_ (fun R hR => ?_)
  rotate_left
  · wp_walk using tSeq, inV, eqV
    rcases head_fold (ht.same (s3.trans s4)) with ⟨n, w, p, e, n0, n1, em⟩ | ⟨w, xs, e, nw, em⟩
    · refine ⟨_, e, _, atI_nat (j := 0) rfl, rfl, ?_⟩
      rw [if_pos rfl]
      refine ⟨_, e, _, atI_nat (j := 2) rfl, n, rfl, .inr ⟨by omega, by omega⟩, hR _ _ ⟨rfl, ?_⟩⟩
      rw [em.2, if_neg (by rw [em.1]; decide), Int.mul_comm]
    · refine ⟨_, e, _, atI_nat (j := 0) rfl, rfl, ?_⟩
      rw [if_neg (fun z => nw (V.str.inj z))]
      rw [em] at hR
      exact hR _ _ ⟨rfl, rfl⟩
  rintro σ6 G6 ⟨rfl, rfl⟩
  refine seq_with (fun σ G => σ = [some (.ref a), some (.int (callsT t)), some (.ref ma), y3, y4, some (.bl (isLeaf t)), some (.int (callsT t)), none] ∧ Same G6 G) ?_ (fun R hR => ?_)
  rotate_left
  · wp_walk using tSeq, inV, eqV, spcallsof
    exact ⟨t, ht.same (s3.trans s4), dl, fun G7 s7 => hR _ _ ⟨rfl, s7⟩⟩
  rintro σ7 G7 ⟨rfl, s7⟩
  refine seq_with (fun σ G => ∃ (sp : Addr) (Ls : List Int), σ = [some (.ref a), some (.int (callsT t)), some (.ref ma), y3, y4, some (.bl (isLeaf t)), some (.int (callsT t)), some (.ref sp)] ∧ Same G6 G ∧ G sp = some (.lst (Ls.map V.int)) ∧ Ls.Pairwise (· < ·) ∧ ∀ s, s ∈ Ls ↔ s ∈ storesT t) ?_ (fun R hR => ?_)
  rotate_left
  · wp_walk using tSeq, inV, eqV, spstoresof
    exact ⟨t, ht.same ((s3.trans s4).trans s7), so, sz, fun G8 p Ls s8 e8 pw mm => hR _ _ ⟨p, Ls, rfl, s7.trans s8, e8, pw, mm⟩⟩
  rintro σ8 G8 ⟨sp, Ls, rfl, s8, g8, pw, mm⟩
  have ht8 := ht.same ((s3.trans s4).trans s8)
  have gm8 := (s4.trans s8) _ _ g3
  have L3 : L.length ≤ 3 := few so ks.2 fun x hx => (ms x).mp hx
  refine seq_with (fun σ G => σ = [some (.ref a), some (.int (callsT t)), some (.ref ma), y3, y4, some (.bl (isLeaf t)), some (.int (callsT t)), some (.ref sp)] ∧ Same G8 G) ?_ (fun R hR => ?_)
  rotate_left
  · wp_walk using tSeq, inV, splawwhole
    refine ⟨_, g8, kvs, gm8, L, ks.1, fun _ => by omega, fun ns' pm pw' nd l hl => ?_⟩
    have en : ns' = Ls := sort_eq (lt_of_le pw' (pm.nodup_iff.mpr nd)) pw fun x => by rw [pm.mem_iff, ms, mm]
    rw [en]
    refine ⟨_, .of (same_new hl _ _ _ g8), _, .of upd_same, flat_ints _, flat_ints _, ?_⟩
    rw [eqVs_self, if_neg (by decide)]
    exact hR _ _ ⟨rfl, same_new hl _⟩
  rintro σ9 G9 ⟨rfl, s9⟩
  refine seq_with (fun σ G => σ = [some (.ref a), some (.int (callsT t)), some (.ref ma), y3, y4, some (.bl (isLeaf t)), some (.int (callsT t)), some (.ref sp)] ∧ Same G9 G) ?_ (fun R hR => ?_)
  rotate_left
  · wp_walk using tSeq, inV, eqV, spisfree
    cases hl : isLeaf t with
    | true =>
      rw [hl] at hR
      rw [if_pos rfl]
      refine ⟨t, ht8.same s9, fun G' s' => ?_⟩
      rw [hl, if_neg (by decide), if_neg (by decide)]
      exact hR _ _ ⟨rfl, s'⟩
    | false =>
      rw [hl] at hR
      rw [if_neg (by decide), if_pos rfl]
      refine ⟨t, ht8.same s9, fun G' s' => ?_⟩
      rw [hl, if_neg (by decide)]
      exact hR _ _ ⟨rfl, s'⟩
  rintro σA GA ⟨rfl, sA⟩
  wp_walk using tSeq, inV, eqV
  exact ⟨small (by decide), fun p hp => q _ p ma kvs L ((((s3.trans s4).trans s8).trans (s9.trans sA)).trans (same_new hp _)) ma0 upd_same (same_new hp _ _ _ ((s9.trans sA) _ _ gm8)) ks ms⟩
theorem oklawlookedA (F : Fun K "_law_looked" "_law_looked" slawlooked f fd) (clawparts : Callee P w K mg base CX0 68 "_law_parts" ["tree"] splawparts) (clawwhole : Callee P w K mg base CX0 68 "_law_whole" ["found"] splawwhole) (ccallsof : Callee P w K mg base CX0 68 "calls_of" ["tree"] (spcallsof 66)) (cstoresof : Callee P w K mg base CX0 68 "stores_of" ["tree"] spstoresof) (cisfree : Callee P w K mg base CX0 68 "is_free" ["tree"] spisfree) (zisinstance : mg "isinstance" = none) (zlist : mg "list" = none) (zsorted : mg "sorted" = none) (m : mg "_law_looked" = some (.ref f)) (b : Binds K fd ["tree"] []) : ∀ d0 : Nat, FnOk P w K mg base CX0 (d0 + 68) f fd ["tree"] (splawlooked d0)
  | 0 => ⟨fun _ _ _ _ h => h.elim, fun _ _ _ _ _ _ _ _ _ _ _ _ _ h => h.elim⟩
  | d0 + 1 => (oklawlooked F (clawparts.mono (Nat.le_add_left _ _)) (clawwhole.mono (Nat.le_add_left _ _)) (ccallsof.mono (Nat.le_add_left _ _)) (cstoresof.mono (Nat.le_add_left _ _)) (cisfree.mono (Nat.le_add_left _ _)) (Callee.mk' F m b (oklawlookedA F clawparts clawwhole ccallsof cstoresof cisfree zisinstance zlist zsorted m b d0)) zisinstance zlist zsorted).mono (by omega)
end
abbrev slaw : Stmt := top 15
def splaw : PySem.W.Frag → Sp := fun K => fun vs H Q _ => ∃ (a : Addr) (ns : List Int), vs = [.ref a] ∧ SqL K H a (ns.map V.int) ∧ ns.length ≤ 63 ∧ ∀ H', Q (.bl true) H'
section
variable {P : Program} {w : World} {K : PySem.W.Frag} {mg : Str → Option Value} {base : Heap} {f : Addr} {fd : FuncData}
theorem sclaw : FnScope ["script", "tree"] ["script"] (defScope slaw) := ⟨rfl, rfl, rfl, by decide +kernel, rfl, by decide +kernel, by decide +kernel⟩
theorem oklaw (F : Fun K "law" "law" slaw f fd) (clawtrees : Callee P w K mg base CX0 (135) "_law_trees" ["script", "most"] (splawtrees K)) (clawlooked : Callee P w K mg base CX0 (135) "_law_looked" ["tree"] (splawlooked 66)) : FnOk P w K mg base CX0 (136) f fd ["script"] (splaw K) := by
  have sc := sclaw
  refine F.ok sc (fun vs H Q E h => ?_) (fun cdv A outer s H vs Q E hr h => ?_)
  · obtain ⟨a, ns, rfl, _⟩ := h; rfl
  obtain ⟨a, ns, rfl, hS, h63, q⟩ := h
  refine ⟨_, (pss_cons (ps_for PassesOwn.never rfl (pi_list (pe_cal clawtrees hr (by rfl) pass0 (pa_cons (pv 0) (pa_cons pe_int pa_nil)))) (pg_name (i := 1) sc.nd rfl (Or.inl rfl)) (pss_one (ps_if (pt_cmpR op_isN (pe_cal clawlooked hr (by rfl) pass0 (pa_cons (pv 1) pa_nil)) pe_non (nomark _)) (pss_one (ps_ret pe_bl)) pss_nil))) (pss_one (ps_ret pe_bl))), ?_⟩
  wp_walk using tSeq, inV, eqV, splawtrees, splawlooked
  refine ⟨ns, hS, h63, fun H1 l ts ps s1 e1 tr ok tl => ?_⟩
  refine LoopL.mk (xs := ps.map V.ref) (.of e1) (fun i σ G => Same H1 G ∧ ∃ y, σ = [some (.ref a), y]) ⟨Same.refl _, _, rfl⟩ (fun i σ G _ h => .of (h.1 _ _ e1)) (fun i x σ G ex h => ?_) (fun σ G h => ?_)
  · obtain ⟨sG, y, rfl⟩ := h
    have il : i < ps.length := by have := (List.getElem?_eq_some_iff.mp ex).1; rwa [List.length_map] at this
    have ek : ts[i]? = some (ts[i]'(by rw [← tr.1]; exact il)) := List.getElem?_eq_getElem _
    generalize ts[i]'(by rw [← tr.1]; exact il) = u at ek
    obtain ⟨pu, epu, hu⟩ := tr.2 i u ek
    have ex' : x = V.ref pu := by rw [List.getElem?_map, epu] at ex; exact (Option.some.inj ex).symm
    subst ex'
    obtain ⟨u63, so⟩ := ok u (List.mem_of_getElem? ek)
    have du := depth_size u
    wp_walk using tSeq, inV, eqV, splawlooked
    refine ⟨u, hu.same sG, by omega, by omega, by omega, so, fun G4 pf m kv M s4 m0 e1 e2 k4 m4 => ?_⟩
    rw [if_neg (by intro z; cases z)]
    exact ⟨sG.trans s4, _, rfl⟩
  · wp_walk using tSeq, inV, eqV
    obtain ⟨sG, y, rfl⟩ := h
    exact q _
end
theorem us_len1 {α : Type} {us : List α} (h : us.length = 1) : ∃ x0, us = [x0] := by
  match us, h with
  | [x0], _ => exact ⟨_, rfl⟩
theorem us_len2 {α : Type} {us : List α} (h : us.length = 2) : ∃ x0 x1, us = [x0, x1] := by
  match us, h with
  | [x0, x1], _ => exact ⟨_, _, rfl⟩
theorem us_len3 {α : Type} {us : List α} (h : us.length = 3) : ∃ x0 x1 x2, us = [x0, x1, x2] := by
  match us, h with
  | [x0, x1, x2], _ => exact ⟨_, _, _, rfl⟩
theorem us_len4 {α : Type} {us : List α} (h : us.length = 4) : ∃ x0 x1 x2 x3, us = [x0, x1, x2, x3] := by
  match us, h with
  | [x0, x1, x2, x3], _ => exact ⟨_, _, _, _, rfl⟩
theorem all_mk {l : PySem.W.OpenLaw} {w : World} {K : PySem.W.Frag} {h : Heap} {mg : Str → Option Value} {fa f0 f1 f2 f3 f4 f5 f6 f7 f8 f9 f10 f11 f12 f13 : Addr} (X : K.In h) (G : h.Ns mainGlobals mg) (hfa : mg "law" = some (.ref fa))
    {od0 an0 od1 an1 od2 an2 od3 an3 od4 an4 od5 an5 od6 an6 od7 an7 od8 an8 od9 an9 od10 an10 od11 an11 od12 an12 od13 an13 : Option Addr} {sl0 sl1 sl2 sl3 sl4 sl5 sl6 sl7 sl8 sl9 sl10 sl11 sl12 sl13 : Array (Option Value)} {oc0 kV0 dc0 pm0 cd0 ct0 oc1 kV1 dc1 pm1 cd1 ct1 oc2 kV2 dc2 pm2 cd2 ct2 oc3 kV3 dc3 pm3 cd3 ct3 oc4 kV4 dc4 pm4 cd4 ct4 oc5 kV5 dc5 pm5 cd5 ct5 oc6 kV6 dc6 pm6 cd6 ct6 oc7 kV7 dc7 pm7 cd7 ct7 oc8 kV8 dc8 pm8 cd8 ct8 oc9 kV9 dc9 pm9 cd9 ct9 oc10 kV10 dc10 pm10 cd10 ct10 oc11 kV11 dc11 pm11 cd11 ct11 oc12 kV12 dc12 pm12 cd12 ct12 oc13 kV13 dc13 pm13 cd13 ct13 : Value}
    (a0 : PySem.W.nsIn K mainGlobals "is_free" = some (some (.ref f0))) (l0 : K.lookup f0 = some ⟨oc0, od0, .func (PySem.W.fnOf "is_free" "is_free" (defArgs sisfree) (defBody sisfree) (defScope sisfree) .none kV0 dc0 pm0 an0 cd0 ct0), sl0⟩) (q0 : PySem.W.codeIn K cd0 "is_free" = true) (k0 : PySem.W.keepIn K (.ref f0) = true)
    (a1 : PySem.W.nsIn K mainGlobals "branches_of" = some (some (.ref f1))) (l1 : K.lookup f1 = some ⟨oc1, od1, .func (PySem.W.fnOf "branches_of" "branches_of" (defArgs sbranchesof) (defBody sbranchesof) (defScope sbranchesof) .none kV1 dc1 pm1 an1 cd1 ct1), sl1⟩) (q1 : PySem.W.codeIn K cd1 "branches_of" = true) (k1 : PySem.W.keepIn K (.ref f1) = true)
    (a2 : PySem.W.nsIn K mainGlobals "calls_of" = some (some (.ref f2))) (l2 : K.lookup f2 = some ⟨oc2, od2, .func (PySem.W.fnOf "calls_of" "calls_of" (defArgs scallsof) (defBody scallsof) (defScope scallsof) .none kV2 dc2 pm2 an2 cd2 ct2), sl2⟩) (q2 : PySem.W.codeIn K cd2 "calls_of" = true) (k2 : PySem.W.keepIn K (.ref f2) = true)
    (a3 : PySem.W.nsIn K mainGlobals "stores_of" = some (some (.ref f3))) (l3 : K.lookup f3 = some ⟨oc3, od3, .func (PySem.W.fnOf "stores_of" "stores_of" (defArgs sstoresof) (defBody sstoresof) (defScope sstoresof) .none kV3 dc3 pm3 an3 cd3 ct3), sl3⟩) (q3 : PySem.W.codeIn K cd3 "stores_of" = true) (k3 : PySem.W.keepIn K (.ref f3) = true)
    (a4 : PySem.W.nsIn K mainGlobals "_law_leaf" = some (some (.ref f4))) (l4 : K.lookup f4 = some ⟨oc4, od4, .func (PySem.W.fnOf "_law_leaf" "_law_leaf" (defArgs slawleaf) (defBody slawleaf) (defScope slawleaf) .none kV4 dc4 pm4 an4 cd4 ct4), sl4⟩) (q4 : PySem.W.codeIn K cd4 "_law_leaf" = true) (k4 : PySem.W.keepIn K (.ref f4) = true)
    (a5 : PySem.W.nsIn K mainGlobals "_law_fold_word" = some (some (.ref f5))) (l5 : K.lookup f5 = some ⟨oc5, od5, .func (PySem.W.fnOf "_law_fold_word" "_law_fold_word" (defArgs slawfoldword) (defBody slawfoldword) (defScope slawfoldword) .none kV5 dc5 pm5 an5 cd5 ct5), sl5⟩) (q5 : PySem.W.codeIn K cd5 "_law_fold_word" = true) (k5 : PySem.W.keepIn K (.ref f5) = true)
    (a6 : PySem.W.nsIn K mainGlobals "_law_pair_word" = some (some (.ref f6))) (l6 : K.lookup f6 = some ⟨oc6, od6, .func (PySem.W.fnOf "_law_pair_word" "_law_pair_word" (defArgs slawpairword) (defBody slawpairword) (defScope slawpairword) .none kV6 dc6 pm6 an6 cd6 ct6), sl6⟩) (q6 : PySem.W.codeIn K cd6 "_law_pair_word" = true) (k6 : PySem.W.keepIn K (.ref f6) = true)
    (a7 : PySem.W.nsIn K mainGlobals "_law_upon" = some (some (.ref f7))) (l7 : K.lookup f7 = some ⟨oc7, od7, .func (PySem.W.fnOf "_law_upon" "_law_upon" (defArgs slawupon) (defBody slawupon) (defScope slawupon) .none kV7 dc7 pm7 an7 cd7 ct7), sl7⟩) (q7 : PySem.W.codeIn K cd7 "_law_upon" = true) (k7 : PySem.W.keepIn K (.ref f7) = true)
    (a8 : PySem.W.nsIn K mainGlobals "_law_deed" = some (some (.ref f8))) (l8 : K.lookup f8 = some ⟨oc8, od8, .func (PySem.W.fnOf "_law_deed" "_law_deed" (defArgs slawdeed) (defBody slawdeed) (defScope slawdeed) .none kV8 dc8 pm8 an8 cd8 ct8), sl8⟩) (q8 : PySem.W.codeIn K cd8 "_law_deed" = true) (k8 : PySem.W.keepIn K (.ref f8) = true)
    (a9 : PySem.W.nsIn K mainGlobals "_law_trees" = some (some (.ref f9))) (l9 : K.lookup f9 = some ⟨oc9, od9, .func (PySem.W.fnOf "_law_trees" "_law_trees" (defArgs slawtrees) (defBody slawtrees) (defScope slawtrees) .none kV9 dc9 pm9 an9 cd9 ct9), sl9⟩) (q9 : PySem.W.codeIn K cd9 "_law_trees" = true) (k9 : PySem.W.keepIn K (.ref f9) = true)
    (a10 : PySem.W.nsIn K mainGlobals "_law_parts" = some (some (.ref f10))) (l10 : K.lookup f10 = some ⟨oc10, od10, .func (PySem.W.fnOf "_law_parts" "_law_parts" (defArgs slawparts) (defBody slawparts) (defScope slawparts) .none kV10 dc10 pm10 an10 cd10 ct10), sl10⟩) (q10 : PySem.W.codeIn K cd10 "_law_parts" = true) (k10 : PySem.W.keepIn K (.ref f10) = true)
    (a11 : PySem.W.nsIn K mainGlobals "_law_whole" = some (some (.ref f11))) (l11 : K.lookup f11 = some ⟨oc11, od11, .func (PySem.W.fnOf "_law_whole" "_law_whole" (defArgs slawwhole) (defBody slawwhole) (defScope slawwhole) .none kV11 dc11 pm11 an11 cd11 ct11), sl11⟩) (q11 : PySem.W.codeIn K cd11 "_law_whole" = true) (k11 : PySem.W.keepIn K (.ref f11) = true)
    (a12 : PySem.W.nsIn K mainGlobals "_law_looked" = some (some (.ref f12))) (l12 : K.lookup f12 = some ⟨oc12, od12, .func (PySem.W.fnOf "_law_looked" "_law_looked" (defArgs slawlooked) (defBody slawlooked) (defScope slawlooked) .none kV12 dc12 pm12 an12 cd12 ct12), sl12⟩) (q12 : PySem.W.codeIn K cd12 "_law_looked" = true) (k12 : PySem.W.keepIn K (.ref f12) = true)
    (a13 : PySem.W.nsIn K mainGlobals "law" = some (some (.ref f13))) (l13 : K.lookup f13 = some ⟨oc13, od13, .func (PySem.W.fnOf "law" "law" (defArgs slaw) (defBody slaw) (defScope slaw) .none kV13 dc13 pm13 an13 cd13 ct13), sl13⟩) (q13 : PySem.W.codeIn K cd13 "law" = true) (k13 : PySem.W.keepIn K (.ref f13) = true)
    (zlen : PySem.W.nsIn K mainGlobals "len" = some none)
    (zsorted : PySem.W.nsIn K mainGlobals "sorted" = some none)
    (ztuple : PySem.W.nsIn K mainGlobals "tuple" = some none)
    (zrange : PySem.W.nsIn K mainGlobals "range" = some none)
    (zmin : PySem.W.nsIn K mainGlobals "min" = some none)
    (zisinstance : PySem.W.nsIn K mainGlobals "isinstance" = some none)
    (zint : PySem.W.nsIn K mainGlobals "int" = some none)
    (zbool : PySem.W.nsIn K mainGlobals "bool" = some none)
    (zlist : PySem.W.nsIn K mainGlobals "list" = some none)
    : ∃ fd : FuncData, (∀ (s : Shared) (v : Value), BindsTo s fd ⟨[v], []⟩ [("script", v)]) ∧ ∀ base : Heap, K.In base → base.Ns mainGlobals mg → FnOk l.prog w K mg base CX0 136 fa fd ["script"] (splaw K) := by
  have e := hfa.symm.trans (PySem.W.mg_of X G a13)
  cases e
  have F0 := fun_mk (st := sisfree) l0 q0 k0
  have b0 := F0.binds (ps := ["tree"]) fun _ _ _ _ _ _ us hl => by
    obtain ⟨_, rfl⟩ := us_len1 hl
    rfl
  have F1 := fun_mk (st := sbranchesof) l1 q1 k1
  have b1 := F1.binds (ps := ["tree"]) fun _ _ _ _ _ _ us hl => by
    obtain ⟨_, rfl⟩ := us_len1 hl
    rfl
  have F2 := fun_mk (st := scallsof) l2 q2 k2
  have b2 := F2.binds (ps := ["tree"]) fun _ _ _ _ _ _ us hl => by
    obtain ⟨_, rfl⟩ := us_len1 hl
    rfl
  have F3 := fun_mk (st := sstoresof) l3 q3 k3
  have b3 := F3.binds (ps := ["tree"]) fun _ _ _ _ _ _ us hl => by
    obtain ⟨_, rfl⟩ := us_len1 hl
    rfl
  have F4 := fun_mk (st := slawleaf) l4 q4 k4
  have b4 := F4.binds (ps := ["cell", "way", "inner"]) fun _ _ _ _ _ _ us hl => by
    obtain ⟨_, _, _, rfl⟩ := us_len3 hl
    rfl
  have F5 := fun_mk (st := slawfoldword) l5 q5 k5
  have b5 := F5.binds (ps := ["cell"]) fun _ _ _ _ _ _ us hl => by
    obtain ⟨_, rfl⟩ := us_len1 hl
    rfl
  have F6 := fun_mk (st := slawpairword) l6 q6 k6
  have b6 := F6.binds (ps := ["cell"]) fun _ _ _ _ _ _ us hl => by
    obtain ⟨_, rfl⟩ := us_len1 hl
    rfl
  have F7 := fun_mk (st := slawupon) l7 q7 k7
  have b7 := F7.binds (ps := ["cell", "way", "tree", "inner"]) fun _ _ _ _ _ _ us hl => by
    obtain ⟨_, _, _, _, rfl⟩ := us_len4 hl
    rfl
  have F8 := fun_mk (st := slawdeed) l8 q8 k8
  have b8 := F8.binds (ps := ["trees", "cell"]) fun _ _ _ _ _ _ us hl => by
    obtain ⟨_, _, rfl⟩ := us_len2 hl
    rfl
  have F9 := fun_mk (st := slawtrees) l9 q9 k9
  have b9 := F9.binds (ps := ["script", "most"]) fun _ _ _ _ _ _ us hl => by
    obtain ⟨_, _, rfl⟩ := us_len2 hl
    rfl
  have F10 := fun_mk (st := slawparts) l10 q10 k10
  have b10 := F10.binds (ps := ["tree"]) fun _ _ _ _ _ _ us hl => by
    obtain ⟨_, rfl⟩ := us_len1 hl
    rfl
  have F11 := fun_mk (st := slawwhole) l11 q11 k11
  have b11 := F11.binds (ps := ["found"]) fun _ _ _ _ _ _ us hl => by
    obtain ⟨_, rfl⟩ := us_len1 hl
    rfl
  have F12 := fun_mk (st := slawlooked) l12 q12 k12
  have b12 := F12.binds (ps := ["tree"]) fun _ _ _ _ _ _ us hl => by
    obtain ⟨_, rfl⟩ := us_len1 hl
    rfl
  have F13 := fun_mk (st := slaw) l13 q13 k13
  have b13 := F13.binds (ps := ["script"]) fun _ _ _ _ _ _ us hl => by
    obtain ⟨_, rfl⟩ := us_len1 hl
    rfl
  refine ⟨PySem.W.fnOf "law" "law" (defArgs slaw) (defBody slaw) (defScope slaw) .none kV13 dc13 pm13 an13 cd13 ct13, fun s v => .of_eq rfl, fun base KB GB => ?_⟩
  have O_isfree := okisfree (P := l.prog) (w := w) (base := base) (mg := mg) F0
  have C_isfree := Callee.mk' F0 (PySem.W.mg_of X G a0) b0 O_isfree
  have O_branchesof := okbranchesof (P := l.prog) (w := w) (base := base) (mg := mg) F1
  have C_branchesof := Callee.mk' F1 (PySem.W.mg_of X G a1) b1 O_branchesof
  have O_callsof := okcallsofA (P := l.prog) (w := w) (base := base) (mg := mg) F2 (C_isfree.mono (by decide)) (C_branchesof.mono (by decide)) (PySem.W.mg_of X G a2) b2 66
  have C_callsof := Callee.mk' F2 (PySem.W.mg_of X G a2) b2 O_callsof
  have O_storesof := okstoresof (P := l.prog) (w := w) (base := base) (mg := mg) F3 (C_branchesof.mono (by decide)) (PySem.W.mg_none_of X G zlen) (PySem.W.mg_none_of X G zsorted)
  have C_storesof := Callee.mk' F3 (PySem.W.mg_of X G a3) b3 O_storesof
  have O_lawleaf := oklawleaf (P := l.prog) (w := w) (base := base) (mg := mg) F4 (PySem.W.mg_none_of X G ztuple) (PySem.W.mg_none_of X G zrange)
  have C_lawleaf := Callee.mk' F4 (PySem.W.mg_of X G a4) b4 O_lawleaf
  have O_lawfoldword := oklawfoldword (P := l.prog) (w := w) (base := base) (mg := mg) F5
  have C_lawfoldword := Callee.mk' F5 (PySem.W.mg_of X G a5) b5 O_lawfoldword
  have O_lawpairword := oklawpairword (P := l.prog) (w := w) (base := base) (mg := mg) F6 (C_lawfoldword.mono (by decide))
  have C_lawpairword := Callee.mk' F6 (PySem.W.mg_of X G a6) b6 O_lawpairword
  have O_lawupon := oklawupon (P := l.prog) (w := w) (base := base) (mg := mg) F7 (C_lawfoldword.mono (by decide)) (PySem.W.mg_none_of X G ztuple) (PySem.W.mg_none_of X G zrange)
  have C_lawupon := Callee.mk' F7 (PySem.W.mg_of X G a7) b7 O_lawupon
  have O_lawdeed := oklawdeed (P := l.prog) (w := w) (base := base) (mg := mg) F8 (C_lawpairword.mono (by decide)) (C_lawupon.mono (by decide)) (C_lawleaf.mono (by decide)) (PySem.W.mg_none_of X G zmin) (PySem.W.mg_none_of X G zlen)
  have C_lawdeed := Callee.mk' F8 (PySem.W.mg_of X G a8) b8 O_lawdeed
  have O_lawtrees := oklawtrees (P := l.prog) (w := w) (base := base) (mg := mg) F9 (C_lawdeed.mono (by decide))
  have C_lawtrees := Callee.mk' F9 (PySem.W.mg_of X G a9) b9 O_lawtrees
  have O_lawparts := oklawparts (P := l.prog) (w := w) (base := base) (mg := mg) F10
  have C_lawparts := Callee.mk' F10 (PySem.W.mg_of X G a10) b10 O_lawparts
  have O_lawwhole := oklawwhole (P := l.prog) (w := w) (base := base) (mg := mg) F11 (PySem.W.mg_none_of X G zisinstance) (PySem.W.mg_none_of X G zint) (PySem.W.mg_none_of X G zbool)
  have C_lawwhole := Callee.mk' F11 (PySem.W.mg_of X G a11) b11 O_lawwhole
  have O_lawlooked := oklawlookedA (P := l.prog) (w := w) (base := base) (mg := mg) F12 (C_lawparts.mono (by decide)) (C_lawwhole.mono (by decide)) (C_callsof.mono (by decide)) (C_storesof.mono (by decide)) (C_isfree.mono (by decide)) (PySem.W.mg_none_of X G zisinstance) (PySem.W.mg_none_of X G zlist) (PySem.W.mg_none_of X G zsorted) (PySem.W.mg_of X G a12) b12 66
  have C_lawlooked := Callee.mk' F12 (PySem.W.mg_of X G a12) b12 O_lawlooked
  have O_law := oklaw (P := l.prog) (w := w) (base := base) (mg := mg) F13 (C_lawtrees.mono (by decide)) (C_lawlooked.mono (by decide))
  exact O_law
theorem walk {l : PySem.W.OpenLaw} {q : Program} {loose : List Str} {XP : (Str → Option Value) → Heap → Prop} {YP : World → Heap → Prop} {d : DefRec} {K : Params → PySem.W.Frag} (hn : l.most = some 63) (hdf : d.params.defaults = [])
    (hY : ∀ (w : World) (h : Heap), YP w h → (K w.params).In h)
    (F : ∀ (w : World) (mg : Str → Option Value) (fa : Addr) (h : Heap), (K w.params).In h → h.Ns mainGlobals mg → mg d.name = some (.ref fa) →
      ∃ fd : FuncData, (∀ (s : Shared) (u : Value), BindsTo s fd ⟨[u], []⟩ [("script", u)]) ∧ ∀ base : Heap, (K w.params).In base → base.Ns mainGlobals mg → FnOk l.prog w (K w.params) mg base (CX0) 136 fa fd ["script"] (splaw (K w.params))) :
    PySem.W.WalkO q loose XP YP l.row.toRowW d [] (fun f vs => PySem.call f vs) :=
  L2.walk_of (n := 63) (k := 136) (x := "script") (CX := fun _ => CX0) (sp := fun w => splaw (K w.params)) hn (by decide) hdf ⟨rfl, by decide, by decide⟩ hY F (fun _ _ a ns hl hfew hS => ⟨a, ns, rfl, hS, hl, fun _ => rfl⟩) fun _ _ _ _ _ z => z
end My
open PySem PySem.W PyProof.Rows
set_option maxRecDepth 100000 in
set_option maxHeartbeats 0 in
theorem PySem.Challenge.cw_sideloom_k47_calls_of_trees_holds : PySem.Challenge.rw_sideloom_k47_calls_of_trees.Holds := by
  w_on; o_law; k_head; (case hw => w_witness2)
  k_fill
  refine My.walk (l := PySem.Challenge.rw_sideloom_k47_calls_of_trees) rfl rfl (fun w h Y => PySem.W.kIn_of Y) ?F
  case F =>
    intro w mg fa h KX G hmg
    refine' My.all_mk KX G hmg ?a0 ?l0 ?q0 ?k0 ?a1 ?l1 ?q1 ?k1 ?a2 ?l2 ?q2 ?k2 ?a3 ?l3 ?q3 ?k3 ?a4 ?l4 ?q4 ?k4 ?a5 ?l5 ?q5 ?k5 ?a6 ?l6 ?q6 ?k6 ?a7 ?l7 ?q7 ?k7 ?a8 ?l8 ?q8 ?k8 ?a9 ?l9 ?q9 ?k9 ?a10 ?l10 ?q10 ?k10 ?a11 ?l11 ?q11 ?k11 ?a12 ?l12 ?q12 ?k12 ?a13 ?l13 ?q13 ?k13 ?zlen ?zsorted ?ztuple ?zrange ?zmin ?zisinstance ?zint ?zbool ?zlist 
    (case a0 => k_is)
    (case l0 => k_is)
    (case q0 => k_is)
    (case k0 => k_is)
    (case a1 => k_is)
    (case l1 => k_is)
    (case q1 => k_is)
    (case k1 => k_is)
    (case a2 => k_is)
    (case l2 => k_is)
    (case q2 => k_is)
    (case k2 => k_is)
    (case a3 => k_is)
    (case l3 => k_is)
    (case q3 => k_is)
    (case k3 => k_is)
    (case a4 => k_is)
    (case l4 => k_is)
    (case q4 => k_is)
    (case k4 => k_is)
    (case a5 => k_is)
    (case l5 => k_is)
    (case q5 => k_is)
    (case k5 => k_is)
    (case a6 => k_is)
    (case l6 => k_is)
    (case q6 => k_is)
    (case k6 => k_is)
    (case a7 => k_is)
    (case l7 => k_is)
    (case q7 => k_is)
    (case k7 => k_is)
    (case a8 => k_is)
    (case l8 => k_is)
    (case q8 => k_is)
    (case k8 => k_is)
    (case a9 => k_is)
    (case l9 => k_is)
    (case q9 => k_is)
    (case k9 => k_is)
    (case a10 => k_is)
    (case l10 => k_is)
    (case q10 => k_is)
    (case k10 => k_is)
    (case a11 => k_is)
    (case l11 => k_is)
    (case q11 => k_is)
    (case k11 => k_is)
    (case a12 => k_is)
    (case l12 => k_is)
    (case q12 => k_is)
    (case k12 => k_is)
    (case a13 => k_is)
    (case l13 => k_is)
    (case q13 => k_is)
    (case k13 => k_is)
    (case zlen => k_is)
    (case zsorted => k_is)
    (case ztuple => k_is)
    (case zrange => k_is)
    (case zmin => k_is)
    (case zisinstance => k_is)
    (case zint => k_is)
    (case zbool => k_is)
    (case zlist => k_is)
