import PyProof.Rows.All
import Wide.All
import OpenK.AllK
import Wide.FinOn
import Lean
import PyProof.EqAt
import PyProof.EqKinds
import PyProof.TupleCall
import PySem.Challenge.RW_sideloom_k29_whole_read
set_option Elab.async false
set_option linter.all false
set_option maxRecDepth 100000
namespace L2
open PySem PySem.Spec PyProof.Rows
abbrev Key := Sum Int Str
def keyIs : Key → Value → Bool
  | .inl k, v => Value.isInt k v
  | .inr x, v => Value.isStrOf x v
def keyH (w : World) : Key → Int
  | .inl k => hashInt k
  | .inr x => hashStr w x
theorem keyIs_shape : ∀ {k : Key} {v : Value}, keyIs k v = true → (∃ i t, k = Sum.inl i ∧ v = Value.int i t) ∨ (∃ x t, k = Sum.inr x ∧ v = Value.str x t)
  | .inl i, v, h => by
    obtain ⟨t, e⟩ := Value.isInt_shape (k := i) (v := v) h
    exact .inl ⟨i, t, rfl, e⟩
  | .inr x, v, h => by
    obtain ⟨t, e⟩ := Value.isStrOf_shape (x := x) (v := v) h
    exact .inr ⟨x, t, rfl, e⟩
theorem keyIs_int (i : Int) (t : Tok) : keyIs (.inl i) (.int i t) = true := by simp [keyIs, Value.isInt]
theorem keyIs_str (x : Str) (t : Tok) : keyIs (.inr x) (.str x t) = true := by simp [keyIs, Value.isStrOf]
theorem key_ll (a b : Int) : decide ((Sum.inl a : Key) = Sum.inl b) = (a == b) := by
  by_cases e : a = b
  · subst e; simp
  · have h : ¬ (Sum.inl a : Key) = Sum.inl b := fun q => e (Sum.inl.inj q)
    rw [decide_eq_false h]
    exact (beq_eq_false_iff_ne.mpr e).symm
theorem key_rr (a b : Str) : decide ((Sum.inr a : Key) = Sum.inr b) = decide (a = b) := by
  by_cases e : a = b
  · subst e; simp
  · have h : ¬ (Sum.inr a : Key) = Sum.inr b := fun q => e (Sum.inr.inj q)
    rw [decide_eq_false h, decide_eq_false e]
theorem key_lr (a : Int) (b : Str) : decide ((Sum.inl a : Key) = Sum.inr b) = false := decide_eq_false (fun q => nomatch q)
theorem key_rl (a : Str) (b : Int) : decide ((Sum.inr a : Key) = Sum.inl b) = false := decide_eq_false (fun q => nomatch q)
def mixKind (prog : Program) (w : World) : PySem.KeyKind prog w Key where
  is := keyIs
  hash := keyH w
  inj := fun v a b ha hb => by
    rcases keyIs_shape ha with ⟨i, t, rfl, rfl⟩ | ⟨x, t, rfl, rfl⟩
    · rcases keyIs_shape hb with ⟨j, u, rfl, e⟩ | ⟨y, u, rfl, e⟩
      · injection e with e1 _; rw [e1]
      · exact nomatch e
    · rcases keyIs_shape hb with ⟨j, u, rfl, e⟩ | ⟨y, u, rfl, e⟩
      · exact nomatch e
      · injection e with e1 _; rw [e1]
  byValue := fun k v h => by
    rcases keyIs_shape h with ⟨i, t, rfl, rfl⟩ | ⟨x, t, rfl, rfl⟩ <;> rfl
  pyHash := fun hv h => by
    rcases keyIs_shape hv with ⟨i, t, rfl, rfl⟩ | ⟨x, t, rfl, rfl⟩
    · exact wpAny_pyHash_int h
    · exact wpAny_pyHash_str h
  eqBool := fun hu hv h => by
    rcases keyIs_shape hu with ⟨i, t, rfl, rfl⟩ | ⟨x, t, rfl, rfl⟩
    · rcases keyIs_shape hv with ⟨j, u, rfl, rfl⟩ | ⟨y, u, rfl, rfl⟩
      · rw [key_ll] at h; exact wpAny_eqBool_int h
      · rw [key_lr] at h; exact SeqAt.EqAt.int_str i t y u _ _ _ _ h
    · rcases keyIs_shape hv with ⟨j, u, rfl, rfl⟩ | ⟨y, u, rfl, rfl⟩
      · rw [key_rl] at h; exact SeqAt.EqAt.str_int x t j u _ _ _ _ h
      · rw [key_rr] at h; exact wpAny_eqBool_str h
  «strs» := fun k x t v h => by
    rcases keyIs_shape h with ⟨i, u, rfl, e⟩ | ⟨y, u, rfl, e⟩
    · exact nomatch e
    · injection e with e1 _
      subst e1
      cases v <;> rfl
theorem mixKind_int (prog : Program) (w : World) (i : Int) (t : Tok) : (mixKind prog w).is (.inl i) (.int i t) = true := keyIs_int i t
theorem mixKind_str (prog : Program) (w : World) (x : Str) (t : Tok) : (mixKind prog w).is (.inr x) (.str x t) = true := keyIs_str x t
end L2
namespace L2
open PySem PySem.Spec PyProof.Rows
inductive V where
  | non | bl (b : Bool) | int (i : Int) | str (x : Str) | byt (b : Array UInt8) | flt (b : UInt64) | ref (a : Addr) | ty (n : String)
  deriving DecidableEq
def RelV : V → Value → Prop
  | .non, u => u = Value.none
  | .bl b, u => u = Value.bool b
  | .int i, u => ∃ t, u = Value.int i t
  | .str x, u => ∃ t, u = Value.str x t
  | .byt b, u => ∃ t, u = Value.bytes b t
  | .flt b, u => ∃ t, u = Value.float b t
  | .ref a, u => u = Value.ref a
  | .ty n, u => u = Value.type n
abbrev Vals : List V → List Value → Prop := Paired RelV
theorem Vals.length {xs : List V} {us : List Value} (r : Vals xs us) : xs.length = us.length := Paired.length r
theorem Vals.get : ∀ {xs : List V} {us : List Value} {i : Nat} {x : V}, Vals xs us → xs[i]? = some x → ∃ u, us[i]? = some u ∧ RelV x u
  | _, _, _, _, .nil, e => by simp at e
  | _, _, 0, _, .cons r _, e => by simp at e; subst e; exact ⟨_, rfl, r⟩
  | _, _, i + 1, x, .cons _ t, e => by
    obtain ⟨u, h1, h2⟩ := Vals.get (i := i) (x := x) t (by simpa using e)
    exact ⟨u, by simpa using h1, h2⟩
theorem Vals.set {x : V} {u : Value} (r : RelV x u) : ∀ {xs : List V} {us : List Value} (i : Nat), Vals xs us → Vals (xs.set i x) (us.set i u)
  | _, _, _, .nil => .nil
  | _, _, 0, .cons _ t => .cons r t
  | _, _, i + 1, .cons q t => .cons q (Vals.set r i t)
theorem Vals.append : ∀ {xs ys : List V} {us ws : List Value}, Vals xs us → Vals ys ws → Vals (xs ++ ys) (us ++ ws)
  | _, _, _, _, .nil, s => s
  | _, _, _, _, .cons r t, s => .cons r (Vals.append t s)
theorem Vals.take : ∀ {xs : List V} {us : List Value} (n : Nat), Vals xs us → Vals (xs.take n) (us.take n)
  | _, _, 0, _ => .nil
  | _, _, _ + 1, .nil => .nil
  | _, _, n + 1, .cons r t => .cons r (Vals.take n t)
theorem Vals.drop : ∀ {xs : List V} {us : List Value} (n : Nat), Vals xs us → Vals (xs.drop n) (us.drop n)
  | _, _, 0, r => r
  | _, _, _ + 1, .nil => .nil
  | _, _, n + 1, .cons _ t => Vals.drop n t
def RelO : Option V → Option Value → Prop
  | some v, some u => RelV v u
  | none, none => True
  | _, _ => False
def KV {κ : Type} : List (κ × V) → List (κ × Value) → Prop := Paired fun (p : κ × V) (q : κ × Value) => p.1 = q.1 ∧ RelV p.2 q.2
def kV : Key → V
  | .inl i => .int i
  | .inr x => .str x
inductive HO where
  | lst (xs : List V)
  | tup (xs : List V)
  | dK (kvs : List (Key × V)) | dT (kvs : List (List Key × V))
  | set (S : Int → Bool) (n : Nat)
  | ins (C dx : Addr) (fs : List (Str × V))
  | own (x : Addr)
  | xd (fs : List (Str × V))
  | met (f x : Addr)
  | rng (lo hi : Int)
  | frz (o : Obj) (u : HO)
  | tbl (ps : Array Value)
  | ext (φ : Heap → Prop)
abbrev Hp := Addr → Option HO
def upd (H : Hp) (a : Addr) (o : HO) : Hp := fun b => if b = a then some o else H b
theorem upd_same {H : Hp} {a : Addr} {o : HO} : upd H a o a = some o := by unfold upd; rw [if_pos rfl]
theorem upd_ne {H : Hp} {a b : Addr} {o : HO} (h : b ≠ a) : upd H a o b = H b := by unfold upd; rw [if_neg h]
theorem ne_of {H : Hp} {a b : Addr} {o u : HO} (h : H a = some o) (h' : H b = some u) (d : o ≠ u) : a ≠ b := by
  intro e; subst e; rw [h] at h'; exact d (Option.some.inj h')
theorem ne_of_none {H : Hp} {a b : Addr} {o : HO} (h : H a = some o) (h' : H b = none) : a ≠ b := by
  intro e; subst e; rw [h] at h'; cases h'
section
variable (P : Program) (w : World)
def ObjOk (H : Hp) (h : Heap) (a : Addr) : HO → Prop
  | .lst xs => xs.length ≤ sizeLine ∧ ∃ (its : List Value) (n : Nat), Vals xs its ∧ h.get? a = some { cls := .type "list", data := .seq its.toArray n }
  | .tup xs => xs.length ≤ sizeLine ∧ ∃ its : List Value, Vals xs its ∧ IsTup h a its.toArray
  | .dK kvs => kvs.length ≤ sizeLine ∧ (a == sysModules) = false ∧ ∃ vs, KV kvs vs ∧ h.DictOf (mixKind P w) a vs
  | .dT kvs => kvs.length ≤ sizeLine ∧ (a == sysModules) = false ∧ ∃ xs : List (List Key × Addr × Value),
      Paired (fun (p : List Key × V) (q : List Key × Addr × Value) => p.1 = q.1 ∧ H q.2.1 = some (.tup (p.1.map kV)) ∧ RelV p.2 q.2.2) kvs xs ∧
      ∃ o es ep, h.get? a = some o ∧ o.ExactDict ∧ o.data = .dict es ep ∧ es.toList = xs.map (entryOfKey (tupleKind (mixKind P w))) ∧ (xs.map (·.1)).Nodup
  | .set S n => h.SetOf (intKind P w) a S n
  | .ins C dx fs => H dx = some (.own a) ∧ fs.length ≤ 1000 ∧ dx ≠ a ∧ h.get? a = some (PySem.W.instObj C dx) ∧
      ∃ mA, h.Ns1 dx mA ∧ (∀ f, RelO (fs.lookup f) (mA f)) ∧ PySem.Within mA (fs.map (·.1))
  | .own _ => ∃ o, h.get? a = some o
  | .xd fs => ∃ mA, h.Ns1 a mA ∧ ∀ f, RelO (fs.lookup f) (mA f)
  | .rng lo hi => ∃ t u v, h.get? a = some { cls := .type "range", data := .fields #[.int lo t, .int hi u, .int 1 v] }
  | .frz o u => h.get? a = some o ∧ ObjOk H h a u
  | .tbl ps => h.get? a = some { cls := .none, data := .fields ps }
  | .met f x => h.get? a = some (PySem.W.methodObj (.ref f) (.ref x))
  | .ext φ => φ h ∧ (∃ o, h.get? a = some o) ∧ ∀ h1 h2 : Heap, φ h1 → (∀ o, h1.get? a = some o → h2.get? a = some o) → φ h2
def HOk (H : Hp) (h : Heap) : Prop := ∀ a o, H a = some o → ObjOk P w H h a o
end
section
variable {P : Program} {w : World} {H H' : Hp} {h h' : Heap} {a : Addr} {o : HO}
theorem ObjOk.lt (x : ObjOk P w H h a o) : a < h.objs.size := by
  cases o with
  | lst xs => obtain ⟨_, _, _, _, e⟩ := x; exact Heap.lt_size e
  | tup xs => obtain ⟨_, _, _, p⟩ := x; exact p.lt
  | dK kvs => obtain ⟨_, _, _, _, o, _, _, e, _⟩ := x; exact Heap.lt_size e
  | dT kvs => obtain ⟨_, _, _, _, o, _, _, e, _⟩ := x; exact Heap.lt_size e
  | set S n => obtain ⟨o, _, _, _, e, _⟩ := x; exact Heap.lt_size e
  | ins C dx fs => obtain ⟨_, _, _, e, _⟩ := x; exact Heap.lt_size e
  | own y => obtain ⟨_, e⟩ := x; exact Heap.lt_size e
  | xd fs => obtain ⟨_, ⟨_, _, _, e, _⟩, _⟩ := x; exact Heap.lt_size e
  | rng lo hi => obtain ⟨_, _, _, e⟩ := x; exact Heap.lt_size e
  | frz ob u => obtain ⟨e, _⟩ := x; exact Heap.lt_size e
  | tbl ps => exact Heap.lt_size (show h.get? a = some _ from x)
  | met f y => exact Heap.lt_size (show h.get? a = some _ from x)
  | ext φ => obtain ⟨_, ⟨_, e⟩, _⟩ := x; exact Heap.lt_size e
theorem Paired.mapP {α β : Type} {F G : α → β → Prop} : ∀ {l₁ : List α} {l₂ : List β}, Paired F l₁ l₂ → (∀ a b, F a b → G a b) → Paired G l₁ l₂
  | _, _, .nil, _ => .nil
  | _, _, .cons r t, f => .cons (f _ _ r) (Paired.mapP t f)
theorem ObjOk.stay (x : ObjOk P w H h a o) (k : ∀ b u, (b = a ∨ H b = some (.own a)) → h.get? b = some u → h'.get? b = some u)
    (ho : ∀ b, H b = some (.own a) → H' b = some (.own a)) (ht : ∀ b xs, H b = some (.tup xs) → H' b = some (.tup xs)) : ObjOk P w H' h' a o := by
  induction o with
  | lst xs => obtain ⟨z, its, n, r, e⟩ := x; exact ⟨z, its, n, r, k _ _ (.inl rfl) e⟩
  | tup xs => obtain ⟨z, its, r, ob, e, c⟩ := x; exact ⟨z, its, r, ob, k _ _ (.inl rfl) e, c⟩
  | dK kvs => obtain ⟨z, y, vs, r, ob, es, ep, e, c⟩ := x; exact ⟨z, y, vs, r, ob, es, ep, k _ _ (.inl rfl) e, c⟩
  | dT kvs =>
    obtain ⟨z, y, xs, r, ob, es, ep, e, c⟩ := x
    exact ⟨z, y, xs, Paired.mapP r fun p q z => ⟨z.1, ht _ _ z.2.1, z.2.2⟩, ob, es, ep, k _ _ (.inl rfl) e, c⟩
  | set S n => obtain ⟨ob, es, ep, t, e, c⟩ := x; exact ⟨ob, es, ep, t, k _ _ (.inl rfl) e, c⟩
  | ins C dx fs =>
    obtain ⟨d, z, ne, e, mA, ⟨od, es, ep, e2, c⟩, r⟩ := x
    exact ⟨ho _ d, z, ne, k _ _ (.inl rfl) e, mA, ⟨od, es, ep, k _ _ (.inr d) e2, c⟩, r⟩
  | own y => obtain ⟨ob, e⟩ := x; exact ⟨ob, k _ _ (.inl rfl) e⟩
  | xd fs => obtain ⟨mA, ⟨od, es, ep, e, c⟩, r⟩ := x; exact ⟨mA, ⟨od, es, ep, k _ _ (.inl rfl) e, c⟩, r⟩
  | rng lo hi => obtain ⟨t, u, v, e⟩ := x; exact ⟨t, u, v, k _ _ (.inl rfl) e⟩
  | frz ob u ih => obtain ⟨e, q⟩ := x; exact ⟨k _ _ (.inl rfl) e, ih q⟩
  | tbl ps =>
    have e : h.get? a = some { cls := .none, data := .fields ps } := x
    show h'.get? a = some { cls := .none, data := .fields ps }
    exact k a _ (.inl rfl) e
  | met f y =>
    have e : h.get? a = some (PySem.W.methodObj (.ref f) (.ref y)) := x
    show h'.get? a = some (PySem.W.methodObj (.ref f) (.ref y))
    exact k a _ (.inl rfl) e
  | ext φ => obtain ⟨p, ⟨o, e⟩, st⟩ := x; exact ⟨st _ _ p fun o q => k _ _ (.inl rfl) q, ⟨o, k _ _ (.inl rfl) e⟩, st⟩
theorem HOk.lt (x : HOk P w H h) (e : H a = some o) : a < h.objs.size := (x a o e).lt
theorem HOk.fresh (x : HOk P w H h) (e : h.objs.size ≤ a) : H a = none := by
  cases q : H a with
  | none => rfl
  | some u => exact absurd (Nat.lt_of_lt_of_le (x.lt q) e) (Nat.lt_irrefl _)
theorem HOk.kept (x : HOk P w H h) (k : ∀ b u, h.get? b = some u → h'.get? b = some u) : HOk P w H h' := fun a o e =>
  (x a o e).stay (fun b u _ q => k b u q) (fun _ q => q) fun _ _ q => q
theorem HOk.laid (x : HOk P w H h) (k : ∀ b u, h.get? b = some u → h'.get? b = some u) (hp : h.objs.size ≤ a) (new : ObjOk P w (upd H a o) h' a o) : HOk P w (upd H a o) h' := fun b u e => by
  have hn := x.fresh hp
  by_cases hb : b = a
  · subst hb; rw [upd_same] at e; cases e; exact new
  · rw [upd_ne hb] at e
    exact (x b u e).stay (fun c v _ q => k c v q) (fun c q => by rw [upd_ne (ne_of_none q hn)]; exact q) fun c xs q => by rw [upd_ne (ne_of_none q hn)]; exact q
end
def Rd (H : Hp) (a : Addr) (u : HO) : Prop := H a = some u ∨ ∃ o, H a = some (.frz o u)
theorem Rd.of {H : Hp} {a : Addr} {u : HO} (h : H a = some u) : Rd H a u := .inl h
theorem Rd.ok {P : Program} {w : World} {H : Hp} {h : Heap} {a : Addr} {u : HO} (r : Rd H a u) (x : HOk P w H h) : ObjOk P w H h a u := by
  rcases r with r | ⟨o, r⟩
  · exact x a u r
  · obtain ⟨_, q⟩ := x a _ r
    exact q
def Mut : Option HO → Prop
  | some (.lst _) => True
  | some (.dK _) => True
  | some (.dT _) => True
  | some (.set _ _) => True
  | some (.ins _ _ _) => True
  | some (.ext _) => True
  | _ => False
section
variable {P : Program} {w : World} {H : Hp} {h h' : Heap} {x e : Addr} {o' : HO}
theorem HOk.write (ok : HOk P w H h) (mu : Mut (H x)) (he : e = x ∨ H e = some (.own x)) (k : ∀ b u, b ≠ e → h.get? b = some u → h'.get? b = some u) (heo : ∃ u, h'.get? e = some u)
    (new : ObjOk P w (upd H x o') h' x o') : HOk P w (upd H x o') h' := fun b u q => by
  have nown : ∀ c y, H c = some (.own y) → c ≠ x := fun c y r z => by subst z; rw [r] at mu; exact mu
  have ntup : ∀ c xs, H c = some (.tup xs) → c ≠ x := fun c xs r z => by subst z; rw [r] at mu; exact mu
  by_cases hb : b = x
  · subst hb; rw [upd_same] at q; cases q; exact new
  · rw [upd_ne hb] at q
    by_cases hbe : b = e
    · have q' : H b = some (.own x) := by
        rcases he with z | z
        · exact absurd (hbe.trans z) hb
        · rw [hbe]; exact z
      rw [q] at q'; cases q'
      obtain ⟨v, hv⟩ := heo
      exact ⟨v, by rw [hbe]; exact hv⟩
    · refine (ok b u q).stay (fun c v hc r => k c v ?_ r) (fun c r => by rw [upd_ne (nown c b r)]; exact r) fun c xs r => by rw [upd_ne (ntup c xs r)]; exact r
      rcases hc with rfl | hc
      · exact hbe
      · rintro rfl
        rcases he with z | z
        · exact nown c b hc z
        · rw [hc] at z; cases z; exact hb rfl
end
structure Un (fs ex : List Addr) (H H' : Hp) (h h' : Heap) : Prop where
  keep : ∀ b o, h.get? b = some o → H b = none → b ∉ fs → b ∉ ex → h'.get? b = some o
  slot : ∀ b o, h.get? b = some o → H b = none → b ∈ fs → b ∉ ex → ∃ sl, h'.get? b = some { o with slots := sl }
  free : ∀ b o, h.get? b = some o → H b = none → b ∉ ex → H' b = none
  there : ∀ b o, h.get? b = some o → b ∉ ex → ∃ o', h'.get? b = some o'
  tups : ∀ b xs, H b = some (.tup xs) → H' b = some (.tup xs)
  frzs : ∀ b o u, H b = some (.frz o u) → H' b = some (.frz o u)
  tbls : ∀ b ps, H b = some (.tbl ps) → ∃ more, H' b = some (.tbl (ps ++ more))
section
variable {fs fs' ex ex' : List Addr} {H H1 H2 : Hp} {h h1 h2 h' : Heap} {a x e : Addr} {o : HO}
theorem Un.any (u : Un fs ex H H1 h h1) {b : Addr} {ob : Obj} (q : h.get? b = some ob) (n : H b = none) (hx : b ∉ ex) : ∃ sl, h1.get? b = some { ob with slots := sl } := by
  by_cases hb : b ∈ fs
  · exact u.slot b ob q n hb hx
  · exact ⟨ob.slots, u.keep b ob q n hb hx⟩
theorem Un.trans (a : Un fs ex H H1 h h1) (b : Un fs ex H1 H2 h1 h2) : Un fs ex H H2 h h2 where
  keep := fun c ob q n hc hx => b.keep c ob (a.keep c ob q n hc hx) (a.free c ob q n hx) hc hx
  slot := fun c ob q n hc hx => by
    obtain ⟨sl, e1⟩ := a.slot c ob q n hc hx
    obtain ⟨sl', e2⟩ := b.slot c _ e1 (a.free c ob q n hx) hc hx
    exact ⟨sl', e2⟩
  free := fun c ob q n hx => by
    obtain ⟨o', e1⟩ := a.there c ob q hx
    exact b.free c o' e1 (a.free c ob q n hx) hx
  there := fun c ob q hx => by
    obtain ⟨o', e1⟩ := a.there c ob q hx
    exact b.there c o' e1 hx
  tups := fun c xs q => b.tups c xs (a.tups c xs q)
  frzs := fun c ob xs q => b.frzs c ob xs (a.frzs c ob xs q)
  tbls := fun c ps q => by
    obtain ⟨m1, e1⟩ := a.tbls c ps q
    obtain ⟨m2, e2⟩ := b.tbls c _ e1
    exact ⟨m1 ++ m2, by rw [e2, Array.append_assoc]⟩
theorem Un.kept (k : ∀ b u, h.get? b = some u → h'.get? b = some u) : Un fs ex H H h h' :=
  ⟨fun b ob q _ _ _ => k b ob q, fun b ob q _ _ _ => ⟨ob.slots, k b ob q⟩, fun _ _ _ n _ => n, fun b ob q _ => ⟨ob, k b ob q⟩, fun _ _ q => q, fun _ _ _ q => q, fun _ ps q => ⟨#[], by rw [q]; simp⟩⟩
theorem Un.refl : Un fs ex H H h h := Un.kept fun _ _ q => q
theorem Un.laid (k : ∀ b u, h.get? b = some u → h'.get? b = some u) (hp : h.objs.size ≤ a) (hn : H a = none) : Un fs ex H (upd H a o) h h' where
  keep := fun b u q _ _ _ => k b u q
  slot := fun b u q _ _ _ => ⟨u.slots, k b u q⟩
  free := fun b u q n _ => by rw [upd_ne (Nat.ne_of_lt (Nat.lt_of_lt_of_le (Heap.lt_size q) hp))]; exact n
  there := fun b u q _ => ⟨u, k b u q⟩
  tups := fun b xs q => by rw [upd_ne (ne_of_none q hn)]; exact q
  frzs := fun b u xs q => by rw [upd_ne (ne_of_none q hn)]; exact q
  tbls := fun b ps q => ⟨#[], by rw [upd_ne (ne_of_none q hn), q]; simp⟩
theorem Un.write (mu : Mut (H x)) (he : e = x ∨ H e = some (.own x)) (k : ∀ b u, b ≠ e → h.get? b = some u → h'.get? b = some u) (heo : ∃ u, h'.get? e = some u) : Un fs ex H (upd H x o) h h' := by
  have hx : ∀ b, H b = none → b ≠ x := fun b n z => by subst z; rw [n] at mu; exact mu
  have hb : ∀ b, H b = none → b ≠ e := fun b n z => by
    subst z
    rcases he with r | r
    · exact hx b n r
    · rw [n] at r; cases r
  have hm : ∀ b u, H b = some u → ¬ Mut (some u) → b ≠ x := fun b u q nm z => by subst z; rw [q] at mu; exact nm mu
  refine ⟨fun b u q n _ _ => k b u (hb b n) q, fun b u q n _ _ => ⟨u.slots, k b u (hb b n) q⟩, fun b u q n _ => by rw [upd_ne (hx b n)]; exact n, fun b u q _ => ?_,
    fun b xs q => by rw [upd_ne (hm b _ q fun z => z)]; exact q, fun b u xs q => by rw [upd_ne (hm b _ q fun z => z)]; exact q, fun b ps q => ⟨#[], by rw [upd_ne (hm b _ q fun z => z), q]; simp⟩⟩
  by_cases hbe : b = e
  · subst hbe; exact heo
  · exact ⟨u, k b u hbe q⟩
theorem Un.mono (u : Un fs ex H H1 h h1) (hs : ∀ b ∈ fs, b ∈ fs') (hx : ∀ b ∈ ex, b ∈ ex') : Un fs' ex' H H1 h h1 :=
  ⟨fun b ob q n hb he => u.keep b ob q n (fun z => hb (hs b z)) fun z => he (hx b z), fun _ _ q n _ he => u.any q n fun z => he (hx _ z), fun b ob q n he => u.free b ob q n fun z => he (hx b z), fun b ob q he => u.there b ob q fun z => he (hx b z), u.tups, u.frzs, u.tbls⟩
end
def trk (h : Heap) (H : Hp) : List Addr := (List.range h.objs.size).filter fun a => (H a).isSome
def hidT (h : Heap) (H : Hp) : Heap := PySem.W.hideAll h (trk h H)
theorem hidT_size (h : Heap) (H : Hp) : (hidT h H).objs.size = h.objs.size := PySem.W.hideAll_size _ _
theorem hidT_get {h : Heap} {H : Hp} {b : Addr} {o : Obj} (e : h.get? b = some o) (n : H b = none) : (hidT h H).get? b = some o :=
  PySem.W.hideAll_get _ e fun hm => by
    have q : (H b).isSome = true := (List.mem_filter.mp hm).2
    rw [n] at q; simp at q
theorem of_hidT {h : Heap} {H : Hp} {b : Addr} {o : Obj} (e : (hidT h H).get? b = some o) : h.get? b = some o ∧ H b = none := by
  have e' : h.get? b = some o := PySem.W.of_hideAll (trk h H) e
  refine ⟨e', ?_⟩
  cases q : H b with
  | none => rfl
  | some x =>
    have hm : b ∈ trk h H := List.mem_filter.mpr ⟨List.mem_range.mpr (Heap.lt_size e'), by simp [q]⟩
    have z : (hidT h H).get? b = none := PySem.W.hideAll_none (trk h H) hm
    rw [z] at e; cases e
def allNews (g h : Heap) (L : Addr) : List (Addr × Obj) := (List.range h.objs.size).filterMap fun a => if a = L ∨ (g.get? a).isSome = true then none else (h.get? a).map fun o => (a, o)
def rest (g h : Heap) (L d : Addr) : List (Addr × Obj) := (allNews g h L).filter fun p => decide (p.1 ≠ d)
end L2
namespace L2
open PySem PySem.Spec PyProof.Rows
structure Mod (K : PySem.W.Frag) (mg : Str → Option Value) (base : Heap) : Prop where
  kin : K.In base
  glob : base.Ns mainGlobals mg
  blt : ∃ mb, base.Ns builtinsNs mb ∧ ∀ x : Str, x ≠ "__name__" → mb x = bootBuiltins x
  nolimit : base.NoLimit
structure Cx where
  prog : Program
  w : World
  K : PySem.W.Frag
  mg : Str → Option Value
  base : Heap
  A : Around
  N : List Str
  s₀ : Shared
  H₀ : Hp
  env : Env
  outer : List Env
  stack : List Env
  ex : List Addr
  fn : Str → Bool
  calm : Bool
  pn : List (Addr × Obj)
  xe : Value → Shared → Prop
def frs (l : List Env) : List Addr := l.filterMap (·.frame)
abbrev Cx.fs (X : Cx) : List Addr := frs X.outer
def Vis (sc : Scope) (x : Str) : Prop := sc.names.lookup x = some .local ∨ sc.names.lookup x = some .cell ∨ sc.names.lookup x = some .free
def Loc (sc : Scope) (x : Str) : Prop := sc.names.lookup x = some .local ∨ sc.names.lookup x = some .cell
def Look (env : Env) (h : Heap) (m : Str → Option Value) (x : Str) (u : Value) : Prop :=
  (env.kindOf x = some .local ∧ m x = some u) ∨ ((env.kindOf x = some .cell ∨ env.kindOf x = some .free) ∧ ∃ c, env.cells.lookup x = some c ∧ h.IsCell c (some u))
structure Cx.Ok (X : Cx) : Prop where
  mod : Mod X.K X.mg X.base
  kind : X.env.scope.kind = .function
  glob : X.env.globals = mainGlobals
  blt : X.env.builtins = builtinsNs
  above : X.s₀.heap.objs.size ≤ X.env.locals
  inj : ∀ x y c, X.env.cells.lookup x = some c → X.env.cells.lookup y = some c → x = y
  has : ∀ x, (X.env.kindOf x = some .cell ∨ X.env.kindOf x = some .free) → ∃ c, X.env.cells.lookup x = some c
  cab : ∀ x c, X.fn x = true → X.env.cells.lookup x = some c → X.s₀.heap.objs.size ≤ c
  hd : X.calm = true → X.A.handled = none
  frames : X.A.frames = some X.stack
  stk : X.stack = X.outer ∨ (X.stack = X.env :: X.outer ∧ X.env.frame = some X.env.locals)
  exf : ∀ b ∈ X.ex, b ≠ X.env.locals ∧ ∀ x c, X.env.cells.lookup x = some c → c ≠ b
  bs : ∀ b o, X.base.get? b = some o → X.s₀.heap.get? b = some o ∧ X.H₀ b = none
  bsz : X.base.objs.size ≤ X.s₀.heap.objs.size
  noex : ∀ b o, X.base.get? b = some o → b ∉ X.ex
  exfs : ∀ b ∈ X.ex, b ∉ X.fs
  funs : X.s₀.heap.FunFrames X.base X.outer
  frf : ∀ b ∈ X.fs, X.H₀ b = none
structure Inv (X : Cx) (pins : List (Addr × Obj)) (σ : List (Option V)) (H : Hp) (s : Shared) : Prop where
  ok : X.Ok
  os : s.os = X.s₀.os
  bare : AllBare s.gens
  base : Un X.fs X.ex X.H₀ H X.s₀.heap s.heap
  loc : ∃ m, s.heap.Ns X.env.locals m ∧ ∀ (i : Nat) (x : Str) (v : V), X.N[i]? = some x → σ[i]? = some (some v) → Vis X.env.scope x → ∃ u, RelV v u ∧ Look X.env s.heap m x u
  cell : ∀ x c, X.env.cells.lookup x = some c → ∃ v, s.heap.IsCell c v
  free : H X.env.locals = none
  freeC : ∀ x c, X.env.cells.lookup x = some c → H c = none
  pin : ∀ p ∈ X.pn ++ pins, s.heap.get? p.1 = some p.2 ∧ H p.1 = none ∧ p.1 ≠ X.env.locals ∧ p.1 ∉ X.fs ∧ ∀ v, p.2.data ≠ .cell v
  hok : HOk X.prog X.w H s.heap
  len : σ.length = X.N.length
section
variable {X : Cx} {pins : List (Addr × Obj)} {σ : List (Option V)} {H H' : Hp} {s : Shared} {h' : Heap}
theorem Cx.Ok.nofr (ok : X.Ok) {b : Addr} {o : Obj} (e : X.base.get? b = some o) : b ∉ X.fs := fun hb => by
  have := (ok.funs.mem hb).1
  rw [e] at this; cases this
theorem Inv.bs (I : Inv X pins σ H s) : ∀ b o, X.base.get? b = some o → s.heap.get? b = some o ∧ H b = none := fun b o e =>
  ⟨I.base.keep b o (I.ok.bs b o e).1 (I.ok.bs b o e).2 (I.ok.nofr e) (I.ok.noex b o e), I.base.free b o (I.ok.bs b o e).1 (I.ok.bs b o e).2 (I.ok.noex b o e)⟩
theorem Inv.bk (I : Inv X pins σ H s) : ∀ b o, X.base.get? b = some o → s.heap.get? b = some o := fun b o e => (I.bs b o e).1
theorem Inv.mod (I : Inv X pins σ H s) : Mod X.K X.mg X.base := I.ok.mod
theorem Inv.kIn (I : Inv X pins σ H s) : X.K.In s.heap := I.ok.mod.kin.keeps I.bk
theorem Inv.nolimit (I : Inv X pins σ H s) : s.heap.NoLimit := I.ok.mod.nolimit.keeps I.bk
theorem Inv.lt (I : Inv X pins σ H s) : X.env.locals < s.heap.objs.size := let ⟨_, hn, _⟩ := I.loc; hn.lt
theorem Inv.sz (I : Inv X pins σ H s) : X.s₀.heap.objs.size ≤ s.heap.objs.size := Nat.le_trans I.ok.above (Nat.le_of_lt I.lt)
theorem Inv.nofs (I : Inv X pins σ H s) {a : Addr} (h : s.heap.objs.size ≤ a) : a ∉ X.fs := fun hb => by
  obtain ⟨_, o, ho, _⟩ := I.ok.funs.mem hb
  exact absurd (Nat.lt_of_lt_of_le (Heap.lt_size ho) (Nat.le_trans I.sz h)) (Nat.lt_irrefl _)
theorem Inv.cne (I : Inv X pins σ H s) : ∀ x c, X.env.cells.lookup x = some c → c ≠ X.env.locals := fun x c e z => by
  obtain ⟨v, o, ho, hd⟩ := I.cell x c e
  obtain ⟨m, ⟨o', es, ep, ho', hd', _⟩, _⟩ := I.loc
  rw [z, ho'] at ho; cases ho; rw [hd'] at hd; cases hd
theorem Inv.funs (I : Inv X pins σ H s) : s.heap.FunFrames X.base X.outer := by
  have all : ∀ (l : List Env), (∀ b ∈ frs l, b ∈ X.fs) → X.s₀.heap.FunFrames X.base l → s.heap.FunFrames X.base l := by
    intro l
    induction l with
    | nil => intro _ _; trivial
    | cons env r ih =>
      intro hs hl
      obtain ⟨hk, ⟨L, o, hf, hn, ho, hd⟩, hr⟩ := hl
      have hL : L ∈ X.fs := hs L (by unfold frs; rw [List.filterMap_cons, hf]; exact List.mem_cons_self)
      obtain ⟨sl, e⟩ := I.base.slot L o ho (I.ok.frf L hL) hL fun z => I.ok.exfs L z hL
      exact ⟨hk, ⟨L, _, hf, hn, e, hd⟩, ih (fun b hb => hs b (by unfold frs; rw [List.filterMap_cons, hf]; exact List.mem_cons_of_mem _ hb)) hr⟩
  exact all X.outer (fun _ hb => hb) I.ok.funs
theorem Inv.stack (I : Inv X pins σ H s) : s.heap.FunFrames X.base X.stack := by
  rcases I.ok.stk with e | ⟨e, hf⟩
  · rw [e]; exact I.funs
  · rw [e]
    obtain ⟨m, hn, _⟩ := I.loc
    refine .cons (by rw [I.ok.kind]; decide) hf hn ?_ I.funs
    exact Heap.get?_none_of_le (Nat.le_trans I.ok.bsz I.ok.above)
theorem Inv.stkSub (I : Inv X pins σ H s) : ∀ b ∈ frs X.stack, b ∈ X.env.locals :: X.fs := fun b hb => by
  rcases I.ok.stk with e | ⟨e, hf⟩
  · rw [e] at hb; exact List.mem_cons_of_mem _ hb
  · rw [e] at hb
    unfold frs at hb
    rw [List.filterMap_cons, hf] at hb
    exact hb
theorem Inv.stkFree (I : Inv X pins σ H s) : ∀ b ∈ frs X.stack, H b = none := fun b hb => by
  rcases List.mem_cons.mp (I.stkSub b hb) with e | hb
  · rw [e]; exact I.free
  · obtain ⟨_, o, ho, _⟩ := I.ok.funs.mem hb
    exact I.base.free b o ho (I.ok.frf b hb) fun z => I.ok.exfs b z hb
theorem Inv.step {g' : Array GenState} {t' : Nat} {d' : Drawn} {ch : List Addr} (I : Inv X pins σ H s)
    (hch : ∀ b ∈ ch, (b ∈ X.ex ∨ X.s₀.heap.objs.size ≤ b) ∧ b ≠ X.env.locals ∧ (∀ x c, X.env.cells.lookup x = some c → c ≠ b) ∧ ∀ p ∈ X.pn ++ pins, p.1 ≠ b)
    (keep : ∀ b o, b ≠ X.env.locals → b ∉ X.fs → b ∉ ch → s.heap.get? b = some o → H b = none → h'.get? b = some o)
    (slot : ∀ b o, b ≠ X.env.locals → b ∈ X.fs → b ∉ ch → s.heap.get? b = some o → H b = none → ∃ sl, h'.get? b = some { o with slots := sl }) (free : ∀ b o, b ∉ ch → s.heap.get? b = some o → H b = none → H' b = none)
    (there : ∀ b o, b ∉ ch → s.heap.get? b = some o → ∃ o', h'.get? b = some o')
    (tups : ∀ b xs, H b = some (.tup xs) → H' b = some (.tup xs)) (frzs : ∀ b o u, H b = some (.frz o u) → H' b = some (.frz o u)) (tbls : ∀ b ps, H b = some (.tbl ps) → ∃ more, H' b = some (.tbl (ps ++ more)))
    (ns : ∀ m, s.heap.Ns X.env.locals m → h'.Ns X.env.locals m) (hok : HOk X.prog X.w H' h') (hg : AllBare g') :
    Inv X pins σ H' { s with heap := h', gens := g', drawn := d', toks := t' } := by
  have neL : ∀ b o, X.s₀.heap.get? b = some o → b ≠ X.env.locals := fun b o e => Nat.ne_of_lt (Nat.lt_of_lt_of_le (Heap.lt_size e) I.ok.above)
  have neC : ∀ b o, X.s₀.heap.get? b = some o → b ∉ X.ex → b ∉ ch := fun b o e hx hb => by
    rcases (hch b hb).1 with z | z
    · exact hx z
    · exact absurd (Nat.lt_of_lt_of_le (Heap.lt_size e) z) (Nat.lt_irrefl _)
  have cellK : ∀ x c, X.env.cells.lookup x = some c → ∀ v, s.heap.IsCell c v → h'.IsCell c v := fun x c e v ⟨o, ho, hd⟩ => by
    have nch : c ∉ ch := fun z => (hch c z).2.2.1 x c e rfl
    by_cases hc : c ∈ X.fs
    · obtain ⟨sl, q⟩ := slot c o (I.cne x c e) hc nch ho (I.freeC x c e)
      exact ⟨_, q, hd⟩
    · exact ⟨o, keep c o (I.cne x c e) hc nch ho (I.freeC x c e), hd⟩
  refine ⟨I.ok, I.os, hg, ⟨fun b o e n hb hx => ?_, fun b o e n hb hx => ?_, fun b o e n hx => ?_, fun b o e hx => ?_, fun b xs e => tups b xs (I.base.tups b xs e), fun b o xs e => frzs b o xs (I.base.frzs b o xs e), fun b ps e => ?_⟩, ?_, fun x c e => ?_, ?_, fun x c e => ?_, fun p hp => ?_, hok, I.len⟩
  · exact keep b o (neL b o e) hb (neC b o e hx) (I.base.keep b o e n hb hx) (I.base.free b o e n hx)
  · obtain ⟨sl, e1⟩ := I.base.slot b o e n hb hx
    obtain ⟨sl', e2⟩ := slot b _ (neL b o e) hb (neC b o e hx) e1 (I.base.free b o e n hx)
    exact ⟨sl', e2⟩
  · obtain ⟨o', e1⟩ := I.base.there b o e hx
    exact free b o' (neC b o e hx) e1 (I.base.free b o e n hx)
  · obtain ⟨o', e1⟩ := I.base.there b o e hx
    exact there b o' (neC b o e hx) e1
  · obtain ⟨m1, e1⟩ := I.base.tbls b ps e
    obtain ⟨m2, e2⟩ := tbls b _ e1
    exact ⟨m1 ++ m2, by rw [e2, Array.append_assoc]⟩
  · obtain ⟨m, hn, hl⟩ := I.loc
    refine ⟨m, ns m hn, fun i x v e1 e2 e3 => ?_⟩
    obtain ⟨u, r, l⟩ := hl i x v e1 e2 e3
    refine ⟨u, r, ?_⟩
    rcases l with l | ⟨k, c, e, z⟩
    · exact .inl l
    · exact .inr ⟨k, c, e, cellK x c e _ z⟩
  · obtain ⟨v, z⟩ := I.cell x c e
    exact ⟨v, cellK x c e v z⟩
  · obtain ⟨m, ⟨o, _, _, ho, _⟩, _⟩ := I.loc
    exact free _ o (fun z => (hch _ z).2.1 rfl) ho I.free
  · obtain ⟨v, o, ho, hd⟩ := I.cell x c e
    exact free c o (fun z => (hch c z).2.2.1 x c e rfl) ho (I.freeC x c e)
  · obtain ⟨e, n, ne, nf, d⟩ := I.pin p hp
    have nch : p.1 ∉ ch := fun z => (hch p.1 z).2.2.2 p hp rfl
    exact ⟨keep p.1 p.2 ne nf nch e n, free p.1 p.2 nch e n, ne, nf, d⟩
theorem Inv.un {t' : Nat} (I : Inv X pins σ H s) (u : Un X.fs [] H H' s.heap h') (hok : HOk X.prog X.w H' h') : Inv X pins σ H' { s with heap := h', toks := t' } := by
  obtain ⟨m, ⟨o, es, ep, ho, r⟩, _⟩ := id I.loc
  obtain ⟨sl, hL⟩ := u.any ho I.free (by simp)
  exact I.step (g' := s.gens) (d' := s.drawn) (ch := []) (fun _ z => nomatch z) (fun b o _ hb _ e n => u.keep b o e n hb (by simp)) (fun b o _ hb _ e n => u.slot b o e n hb (by simp)) (fun b o _ e n => u.free b o e n (by simp)) (fun b o _ e => u.there b o e (by simp)) u.tups u.frzs u.tbls (fun m' hm => by
    obtain ⟨o', es', ep', ho', r'⟩ := hm
    rw [ho] at ho'; cases ho'
    exact ⟨_, es', ep', hL, r'⟩) hok I.bare
theorem Inv.call {g' : Array GenState} {t' : Nat} {d' : Drawn} {ch : List Addr} (I : Inv X pins σ H s) (u : Un (frs X.stack) ch H H' s.heap h') (hok : HOk X.prog X.w H' h') (hg : AllBare g')
    (hch : ∀ b ∈ ch, (b ∈ X.ex ∨ X.s₀.heap.objs.size ≤ b) ∧ b ≠ X.env.locals ∧ (∀ x c, X.env.cells.lookup x = some c → c ≠ b) ∧ ∀ p ∈ X.pn ++ pins, p.1 ≠ b) :
    Inv X pins σ H' { s with heap := h', gens := g', drawn := d', toks := t' } := by
  obtain ⟨m, ⟨o, es, ep, ho, r⟩, _⟩ := id I.loc
  obtain ⟨sl, hL⟩ := u.any ho I.free fun z => (hch _ z).2.1 rfl
  exact I.step (ch := ch) hch (fun b o hL hb hc e n => u.keep b o e n (fun z => (List.mem_cons.mp (I.stkSub b z)).elim hL hb) hc) (fun b o _ _ hc e n => u.any e n hc) (fun b o hc e n => u.free b o e n hc) (fun b o hc e => u.there b o e hc) u.tups u.frzs u.tbls (fun m' hm => by
    obtain ⟨o', es', ep', ho', r'⟩ := hm
    rw [ho] at ho'; cases ho'
    exact ⟨_, es', ep', hL, r'⟩) hok hg
theorem Inv.turned {t' : Nat} {it : Addr} (I : Inv X pins σ H s) (k : ∀ b o, b ≠ it → s.heap.get? b = some o → h'.get? b = some o) (hn : H it = none) (hL : it ≠ X.env.locals)
    (h1 : it ∈ X.ex ∨ X.s₀.heap.objs.size ≤ it) (h2 : ∀ x c, X.env.cells.lookup x = some c → c ≠ it) (h3 : ∀ p ∈ X.pn ++ pins, p.1 ≠ it) : Inv X pins σ H { s with heap := h', toks := t' } := by
  have nit : ∀ b u, H b = some u → b ≠ it := fun b u e z => by rw [z, hn] at e; cases e
  refine I.step (g' := s.gens) (d' := s.drawn) (ch := [it]) (fun b hb => ?_) (fun b o _ _ hc e _ => k b o (fun z => hc (by simp [z])) e) (fun b o _ _ hc e _ => ⟨o.slots, k b o (fun z => hc (by simp [z])) e⟩) (fun _ _ _ _ n => n)
    (fun b o hc e => ⟨o, k b o (fun z => hc (by simp [z])) e⟩) (fun _ _ e => e) (fun _ _ _ e => e) (fun b ps e => ⟨#[], by rw [e]; simp⟩) (fun m hm => ?_) (fun b u e => ?_) I.bare
  · have e : b = it := by simpa using hb
    subst e
    exact ⟨h1, hL, h2, h3⟩
  · obtain ⟨o, es, ep, ho, r⟩ := hm
    exact ⟨o, es, ep, k _ o (Ne.symm hL) ho, r⟩
  · refine (I.hok b u e).stay (fun c v hc q => k c v ?_ q) (fun _ q => q) fun _ _ q => q
    rcases hc with z | z
    · rw [z]; exact nit b u e
    · exact nit c _ z
theorem Inv.tok (I : Inv X pins σ H s) (t : Nat) : Inv X pins σ H { s with toks := t } := I.un (h' := s.heap) (t' := t) Un.refl I.hok
theorem Inv.kept {t' : Nat} (I : Inv X pins σ H s) (k : ∀ b u, s.heap.get? b = some u → h'.get? b = some u) : Inv X pins σ H { s with heap := h', toks := t' } := I.un (Un.kept k) (I.hok.kept k)
theorem Inv.laid {a : Addr} {o : HO} {t' : Nat} (I : Inv X pins σ H s) (k : ∀ b u, s.heap.get? b = some u → h'.get? b = some u) (hp : s.heap.objs.size ≤ a) (new : ObjOk X.prog X.w (upd H a o) h' a o) :
    Inv X pins σ (upd H a o) { s with heap := h', toks := t' } := I.un (Un.laid k hp (I.hok.fresh hp)) (I.hok.laid k hp new)
theorem Inv.write {x e : Addr} {o : HO} {t' : Nat} (I : Inv X pins σ H s) (mu : Mut (H x)) (he : e = x ∨ H e = some (.own x)) (k : ∀ b u, b ≠ e → s.heap.get? b = some u → h'.get? b = some u) (heo : ∃ u, h'.get? e = some u)
    (new : ObjOk X.prog X.w (upd H x o) h' x o) : Inv X pins σ (upd H x o) { s with heap := h', toks := t' } := I.un (Un.write mu he k heo) (I.hok.write mu he k heo new)
theorem Inv.pins_of {pins' : List (Addr × Obj)} (I : Inv X pins σ H s) (h : ∀ p ∈ pins', s.heap.get? p.1 = some p.2 ∧ H p.1 = none ∧ p.1 ≠ X.env.locals ∧ p.1 ∉ X.fs ∧ ∀ v, p.2.data ≠ .cell v) : Inv X pins' σ H s :=
  ⟨I.ok, I.os, I.bare, I.base, I.loc, I.cell, I.free, I.freeC, fun p hp => (List.mem_append.mp hp).elim (fun z => I.pin p (List.mem_append_left _ z)) (h p), I.hok, I.len⟩
theorem nodup_ix {N : List Str} (hN : N.Nodup) {i j : Nat} {x : Str} (a : N[i]? = some x) (b : N[j]? = some x) : i = j := by
  obtain ⟨h1, e1⟩ := List.getElem?_eq_some_iff.mp a
  obtain ⟨h2, e2⟩ := List.getElem?_eq_some_iff.mp b
  exact (List.getElem_inj hN).mp (e1.trans e2.symm)
theorem store_ok2 {M : Model} {A : Around} {E : Value → Shared → Prop} {i : Nat} {x : Str} {v : V} {u : Value} {Q : Unit → Shared → Prop} (I : Inv X pins σ H s) (hN : X.N.Nodup) (hi : X.N[i]? = some x) (hx : Loc X.env.scope x) (r : RelV v u)
    (h : ∀ s', Inv X pins (σ.set i (some v)) H s' → (∃ a, Heap.SameBut a s.heap s'.heap ∧ (a = X.env.locals ∨ X.env.cells.lookup x = some a)) → Q () s') (hf : X.fn x = true ∨ X.env.scope.names.lookup x = some .local := by first | exact .inl rfl | exact .inr rfl | assumption) : wpAny M A (storeName X.env x u) Q E s := by
  obtain ⟨m, hn, hl⟩ := id I.loc
  have hcls : (X.env.scope.kind == .class || (X.env.scope.kind == .module && X.env.locals != X.env.globals)) = false := by rw [I.ok.kind]; rfl
  have hiσ : i < σ.length := by rw [I.len]; exact (List.getElem?_eq_some_iff.mp hi).1
  have cne := I.cne
  have tracked : ∀ {a : Addr} {h' : Heap}, (∃ o, s.heap.get? a = some o ∧ H a = none) → Heap.SameBut a s.heap h' → HOk X.prog X.w H h' := fun {a h'} ha hs b ob e => by
    obtain ⟨_, _, hfree⟩ := ha
    refine (I.hok b ob e).stay (fun c w' hc q => (hs.2 c ?_).trans q) (fun _ q => q) fun _ _ q => q
    rintro rfl
    rcases hc with rfl | hc
    · rw [hfree] at e; cases e
    · rw [hfree] at hc; cases hc
  rcases hx with hk | hk
  · refine wpAny_storeName_local hk hn (fun h' hn' hs => ?_) hcls
    obtain ⟨oL, _, _, hoL, _⟩ := id hn
    refine h _ ⟨I.ok, I.os, I.bare, ⟨fun b o e n hb hx => ?_, fun b o e n hb hx => ?_, I.base.free, fun b o e hx => ?_, I.base.tups, I.base.frzs, I.base.tbls⟩, ⟨_, hn', fun j y v' e1 e2 e3 => ?_⟩, fun y c e => ?_, I.free, I.freeC, fun p hp => ?_, tracked ⟨oL, hoL, I.free⟩ hs, by simpa using I.len⟩ ⟨_, hs, .inl rfl⟩
    · exact (hs.2 b (Nat.ne_of_lt (Nat.lt_of_lt_of_le (Heap.lt_size e) I.ok.above))).trans (I.base.keep b o e n hb hx)
    · obtain ⟨sl, e1⟩ := I.base.slot b o e n hb hx
      exact ⟨sl, (hs.2 b (Nat.ne_of_lt (Nat.lt_of_lt_of_le (Heap.lt_size e) I.ok.above))).trans e1⟩
    · obtain ⟨o', e1⟩ := I.base.there b o e hx
      exact ⟨o', (hs.2 b (Nat.ne_of_lt (Nat.lt_of_lt_of_le (Heap.lt_size e) I.ok.above))).trans e1⟩
    · by_cases hj : j = i
      · subst hj
        rw [hi] at e1; cases e1
        rw [List.getElem?_set_self hiσ] at e2
        cases e2
        exact ⟨u, r, .inl ⟨hk, by simp⟩⟩
      · rw [List.getElem?_set_ne (Ne.symm hj)] at e2
        obtain ⟨u', r', q⟩ := hl j y v' e1 e2 e3
        refine ⟨u', r', ?_⟩
        rcases q with ⟨k, e⟩ | ⟨k, c, e, z⟩
        · refine .inl ⟨k, ?_⟩
          have : y ≠ x := fun e => hj (nodup_ix hN e1 (e ▸ hi))
          simp [this, e]
        · exact .inr ⟨k, c, e, z.sameBut hs (cne y c e)⟩
    · obtain ⟨w', z⟩ := I.cell y c e
      exact ⟨w', z.sameBut hs (cne y c e)⟩
    · obtain ⟨e, n, ne, nf, d⟩ := I.pin p hp
      exact ⟨(hs.2 p.1 ne).trans e, n, ne, nf, d⟩
  · have hfn : X.fn x = true := by
      rcases hf with z | z
      · exact z
      · rw [z] at hk; cases hk
    obtain ⟨c, hc⟩ := I.ok.has x (.inl hk)
    obtain ⟨w', z⟩ := I.cell x c hc
    refine wpAny_storeName_cell I.ok.kind hk hc z (fun h' hc' hs => ?_)
    obtain ⟨oc, hoc, hocd⟩ := id z
    refine h { s with heap := h' } ⟨I.ok, I.os, I.bare, ⟨fun b o e n hb hx => ?_, fun b o e n hb hx => ?_, I.base.free, fun b o e hx => ?_, I.base.tups, I.base.frzs, I.base.tbls⟩, ⟨m, hn.sameBut hs (Ne.symm (cne x c hc)), fun j y v' e1 e2 e3 => ?_⟩, fun y c' e => ?_, I.free, I.freeC, fun p hp => ?_, tracked ⟨oc, hoc, I.freeC x c hc⟩ hs, by simpa using I.len⟩ ⟨c, hs, .inr hc⟩
    · exact (hs.2 b (Nat.ne_of_lt (Nat.lt_of_lt_of_le (Heap.lt_size e) (I.ok.cab x c hfn hc)))).trans (I.base.keep b o e n hb hx)
    · obtain ⟨sl, e1⟩ := I.base.slot b o e n hb hx
      exact ⟨sl, (hs.2 b (Nat.ne_of_lt (Nat.lt_of_lt_of_le (Heap.lt_size e) (I.ok.cab x c hfn hc)))).trans e1⟩
    · obtain ⟨o', e1⟩ := I.base.there b o e hx
      exact ⟨o', (hs.2 b (Nat.ne_of_lt (Nat.lt_of_lt_of_le (Heap.lt_size e) (I.ok.cab x c hfn hc)))).trans e1⟩
    · by_cases hj : j = i
      · subst hj
        rw [hi] at e1; cases e1
        rw [List.getElem?_set_self hiσ] at e2
        cases e2
        exact ⟨u, r, .inr ⟨.inl hk, c, hc, hc'⟩⟩
      · rw [List.getElem?_set_ne (Ne.symm hj)] at e2
        obtain ⟨u', r', q⟩ := hl j y v' e1 e2 e3
        refine ⟨u', r', ?_⟩
        rcases q with q | ⟨k, c', e, z'⟩
        · exact .inl q
        · refine .inr ⟨k, c', e, z'.sameBut hs ?_⟩
          rintro rfl
          exact hj (nodup_ix hN e1 (I.ok.inj _ _ _ e hc ▸ hi))
    · by_cases hcc : c' = c
      · subst hcc; exact ⟨_, hc'⟩
      · obtain ⟨w2, z2⟩ := I.cell y c' e
        exact ⟨w2, z2.sameBut hs hcc⟩
    · obtain ⟨e, n, ne, nf, d⟩ := I.pin p hp
      refine ⟨(hs.2 p.1 ?_).trans e, n, ne, nf, d⟩
      intro q
      rw [q, hoc] at e
      have q' : oc = p.2 := Option.some.inj e
      exact d w' (by rw [← q']; exact hocd)
theorem store_ok {M : Model} {A : Around} {E : Value → Shared → Prop} {i : Nat} {x : Str} {v : V} {u : Value} {Q : Unit → Shared → Prop} (I : Inv X pins σ H s) (hN : X.N.Nodup) (hi : X.N[i]? = some x) (hx : Loc X.env.scope x) (r : RelV v u)
    (h : ∀ s', Inv X pins (σ.set i (some v)) H s' → Q () s') (hf : X.fn x = true ∨ X.env.scope.names.lookup x = some .local := by first | exact .inl rfl | exact .inr rfl | assumption) : wpAny M A (storeName X.env x u) Q E s :=
  store_ok2 I hN hi hx r (fun s' I' _ => h s' I') hf
theorem Inv.call' {s' : Shared} {ch : List Addr} (I : Inv X pins σ H s) (ho : s'.os = s.os) (u : Un (frs X.stack) ch H H' s.heap s'.heap) (hok : HOk X.prog X.w H' s'.heap) (hg : AllBare s'.gens)
    (hch : ∀ b ∈ ch, (b ∈ X.ex ∨ X.s₀.heap.objs.size ≤ b) ∧ b ≠ X.env.locals ∧ (∀ x c, X.env.cells.lookup x = some c → c ≠ b) ∧ ∀ p ∈ X.pn ++ pins, p.1 ≠ b) : Inv X pins σ H' s' := by
  obtain ⟨h', g', d', t', o'⟩ := s'
  have e : o' = s.os := ho
  subst e
  exact I.call (g' := g') (t' := t') (d' := d') u hok hg hch
end
abbrev XK := Value → Option Addr → Hp → Prop
abbrev St := List (Option V)
abbrev VK := V → Hp → Prop
abbrev TE := St → Hp → VK → Prop
abbrev TT := St → Hp → (Bool → Hp → Prop) → Prop
abbrev TA := St → Hp → (List V → Hp → Prop) → Prop
structure Ends where
  nx : St → Hp → Prop
  rt : VK
  bk : St → Hp → Prop := fun _ _ => False
  ct : St → Hp → Prop := fun _ _ => False
abbrev TS := Ends → St → Hp → Prop
def EP (X : Cx) (pins : List (Addr × Obj)) (σ : St) (Q : VK) (u : Value) (s' : Shared) : Prop := ∃ v H', Inv X pins σ H' s' ∧ RelV v u ∧ Q v H'
def TP (X : Cx) (pins : List (Addr × Obj)) (σ : St) (Q : Bool → Hp → Prop) (b : Bool) (s' : Shared) : Prop := ∃ H', Inv X pins σ H' s' ∧ Q b H'
def AP (X : Cx) (pins : List (Addr × Obj)) (σ : St) (Q : List V → Hp → Prop) (us : List Value) (s' : Shared) : Prop := ∃ vs H', Inv X pins σ H' s' ∧ Vals vs us ∧ Q vs H'
def SP (X : Cx) (pins : List (Addr × Obj)) (D : Ends) (f : Flow) (s' : Shared) : Prop :=
  match f with
  | .next => ∃ σ' H', Inv X pins σ' H' s' ∧ D.nx σ' H'
  | .brk => ∃ σ' H', Inv X pins σ' H' s' ∧ D.bk σ' H'
  | .cont => ∃ σ' H', Inv X pins σ' H' s' ∧ D.ct σ' H'
  | .ret u => ∃ v σ' H', Inv X pins σ' H' s' ∧ RelV v u ∧ D.rt v H'
def PE (X : Cx) (e : Expr) (t : TE) : Prop :=
  ∀ (pins : List (Addr × Obj)) (s : Shared) (σ : St) (H : Hp) (Q : VK), Inv X pins σ H s → t σ H Q → wpAny (model X.prog X.w) X.A (eval e X.env) (EP X pins σ Q) X.xe s
def PT (X : Cx) (e : Expr) (t : TT) : Prop :=
  ∀ (pins : List (Addr × Obj)) (s : Shared) (σ : St) (H : Hp) (Q : Bool → Hp → Prop), Inv X pins σ H s → t σ H Q → wpAny (model X.prog X.w) X.A (isTrue e X.env (eval e X.env)) (TP X pins σ Q) X.xe s
def PW (X : Cx) (e : Expr) (t : TT) : Prop :=
  ∀ (whole : Sem Value) (pins : List (Addr × Obj)) (s : Shared) (σ : St) (H : Hp) (Q : Bool → Hp → Prop), Inv X pins σ H s → t σ H Q → wpAny (model X.prog X.w) X.A (isTrue e X.env whole) (TP X pins σ Q) X.xe s
theorem PW.pt {X : Cx} {e : Expr} {t : TT} (h : PW X e t) : PT X e t := h _
def PA (X : Cx) (es : List Expr) (t : TA) : Prop :=
  ∀ (pos : Pos) (pins : List (Addr × Obj)) (s : Shared) (σ : St) (H : Hp) (Q : List V → Hp → Prop), Inv X pins σ H s → t σ H Q → wpAny (model X.prog X.w) X.A (spliced (backTo pos (starEach es X.env))) (AP X pins σ Q) X.xe s
def PS (X : Cx) (st : Stmt) (t : TS) : Prop :=
  ∀ (pins : List (Addr × Obj)) (s : Shared) (σ : St) (H : Hp) (D : Ends), Inv X pins σ H s → t D σ H → wpAny (model X.prog X.w) X.A (exec st X.env) (SP X pins D) X.xe s
def PSs (X : Cx) (st : List Stmt) (t : TS) : Prop :=
  ∀ (pins : List (Addr × Obj)) (s : Shared) (σ : St) (H : Hp) (D : Ends), Inv X pins σ H s → t D σ H → wpAny (model X.prog X.w) X.A (execs st X.env) (SP X pins D) X.xe s
theorem thn {α : Type} {t : Sem α} {Q Q' : α → Shared → Prop} {M : Model} {A : Around} {E : Value → Shared → Prop} {s : Shared} (h : wpAny M A t Q E s) (hQ : ∀ a s, Q a s → Q' a s) : wpAny M A t Q' E s := wpAny_mono h hQ fun _ _ x => x
end L2
namespace L2
open PySem PySem.Spec PyProof.Rows
section
variable {X : Cx}
def tVar (i : Nat) : TE := fun σ H Q => ∃ v, σ[i]? = some (some v) ∧ Q v H
def tC (v : V) : TE := fun _ H Q => Q v H
theorem pe_var {i : Nat} {x : Str} {pos : Pos} (hN : X.N[i]? = some x) (hv : Vis X.env.scope x) (hd : (x == ("__debug__" : Str)) = false := by decide) (hcd : (x == ("__classdict__" : Str)) = false := by decide) : PE X (.Name x pos) (tVar i) := by
  intro pins s σ H Q I h
  obtain ⟨v, e, h⟩ := h
  obtain ⟨m, hn, hl⟩ := I.loc
  obtain ⟨u, r, l⟩ := hl i x v hN e hv
  have fin : EP X pins σ Q u s := ⟨v, H, I, r, h⟩
  rcases l with ⟨hk, hm⟩ | ⟨hk, c, hc, hcell⟩
  · exact wpAny_Name (wpAny_loadName_local I.ok.kind hk hn hm fin) hd
  · rcases hk with hk | hk
    · exact wpAny_Name (wpAny_loadName_cell I.ok.kind hk hc hcell fin) hd
    · exact wpAny_Name (wpAny_loadName_free I.ok.kind hk hc hcell fin hcd) hd
theorem pe_int {i j pos} : PE X (.Constant (.int i) j pos) (tC (.int i)) := fun _ _ _ H _ I h => wpAny_Constant_int ⟨.int i, H, I.tok _, ⟨_, rfl⟩, h⟩
theorem pe_bl {b j pos} : PE X (.Constant (.bool b) j pos) (tC (.bl b)) := fun _ _ _ H _ I h => Constant_bool ⟨.bl b, H, I, rfl, h⟩
theorem pe_non {j pos} : PE X (.Constant .none j pos) (tC .non) := fun _ _ _ H _ I h => Constant_none ⟨.non, H, I, rfl, h⟩
theorem pe_str {x j pos} : PE X (.Constant (.str x) j pos) (tC (.str x)) := fun _ _ _ H _ I h => Calls.Constant_str ⟨.str x, H, I.tok _, ⟨_, rfl⟩, h⟩
def Gl (X : Cx) (x : Str) : Prop := X.env.kindOf x = some .globalImplicit
theorem ld_glob {E : Value → Shared → Prop} {pins : List (Addr × Obj)} {s : Shared} {σ : St} {H : Hp} {x : Str} {u : Value} {pos : Pos} {Q : Value → Shared → Prop} (I : Inv X pins σ H s) (hg : Gl X x) (hm : X.mg x = some u) (h : Q u s)
    (hd : (x == ("__debug__" : Str)) = false := by decide) : wpAny (model X.prog X.w) X.A (eval (.Name x pos) X.env) Q E s :=
  Calls.Name_function_global I.ok.kind hg (Calls.loadGlobal_global (by rw [I.ok.glob]; exact I.mod.glob.keeps I.bk) hm h) hd
theorem ld_blt {E : Value → Shared → Prop} {pins : List (Addr × Obj)} {s : Shared} {σ : St} {H : Hp} {x : Str} {u : Value} {pos : Pos} {Q : Value → Shared → Prop} (I : Inv X pins σ H s) (hg : Gl X x) (hm : X.mg x = none) (hv : bootBuiltins x = some u) (h : Q u s)
    (hn : x ≠ "__name__" := by decide) (hd : (x == ("__debug__" : Str)) = false := by decide) : wpAny (model X.prog X.w) X.A (eval (.Name x pos) X.env) Q E s := by
  obtain ⟨mb, h1, h2⟩ := I.mod.blt
  exact Calls.Name_function_global I.ok.kind hg (Calls.loadGlobal_builtin (by rw [I.ok.glob]; exact I.mod.glob.keeps I.bk) hm (by rw [I.ok.blt]; exact h1.keeps I.bk) ((h2 x hn).trans hv) h) hd
theorem pe_glob {x : Str} {v : V} {u : Value} {pos : Pos} (hg : Gl X x) (hm : X.mg x = some u) (r : RelV v u) (hd : (x == ("__debug__" : Str)) = false := by decide) : PE X (.Name x pos) (tC v) :=
  fun _ _ _ H _ I h => ld_glob I hg hm ⟨v, H, I, r, h⟩ hd
theorem pe_bltn {x : Str} {v : V} {u : Value} {pos : Pos} (hg : Gl X x) (hm : X.mg x = none) (hv : bootBuiltins x = some u) (r : RelV v u) (hn : x ≠ "__name__" := by decide) (hd : (x == ("__debug__" : Str)) = false := by decide) : PE X (.Name x pos) (tC v) :=
  fun _ _ _ H _ I h => ld_blt I hg hm hv ⟨v, H, I, r, h⟩ hn hd
variable {a b : Expr} {ta tb : TE} {pos : Pos}
def PC (X : Cx) (op : CmpOp) (a b : Expr) (t : TE) : Prop :=
  ∀ (pins : List (Addr × Obj)) (s : Shared) (σ : St) (H : Hp) (Q : VK), Inv X pins σ H s → t σ H Q →
    wpAny (model X.prog X.w) X.A (eval a X.env) (fun v s₁ => wpAny (model X.prog X.w) X.A (eval b X.env) (fun u s₂ => wpAny (model X.prog X.w) X.A (compareOp op v u) (EP X pins σ Q) X.xe s₂) X.xe s₁) X.xe s
theorem nobehind (b : Expr) {op : CmpOp} (h : op ≠ .In) (h2 : op ≠ .NotIn) : behindInMarks op b = false := by
  have e1 : (op == CmpOp.In) = false := by cases op <;> first | rfl | exact absurd rfl h
  have e2 : (op == CmpOp.NotIn) = false := by cases op <;> first | rfl | exact absurd rfl h2
  cases b <;> simp [behindInMarks, e1, e2]
def tB (t : TE) : TT := fun σ H Q => t σ H fun x H1 => ∃ c, x = .bl c ∧ Q c H1
theorem pe_cmp {op : CmpOp} {t : TE} (h : PC X op a b t) (h1 : behindInMarks op b = false := by first | exact nobehind _ (by decide) (by decide) | rfl) : PE X (.Compare a [op] [b] pos) t := fun pins s σ H Q I hw => wpAny_Compare1 (h pins s σ H Q I hw) h1
theorem pt_cmp {op : CmpOp} {t : TE} (h : PC X op a b t) (h1 : behindInMarks op b = false := by first | exact nobehind _ (by decide) (by decide) | rfl) : PT X (.Compare a [op] [b] pos) (tB t) := by
  intro pins s σ H Q I hw
  refine wpAny_isTrue_Compare1 (thn (h pins s σ H _ I hw) fun v s1 h1 => thn h1 fun u s2 h2 => thn h2 fun c s3 ⟨x, H1, I1, r1, q1⟩ => ?_) h1
  obtain ⟨d, rfl, q⟩ := q1
  cases r1
  exact wpAny_truthy_bool ⟨H1, I1, q⟩
theorem pt_val {e : Expr} {t : TE} (h : PE X e t) (he : ∀ whole, isTrue e X.env whole = (do let v ← whole; standAt e.pos; holding [v] (truthy v)) := by intro _; rfl) : PT X e (tB t) := by
  intro pins s σ H Q I hw
  refine isTrue_plain (thn (h pins s σ H _ I hw) fun v s1 ⟨x, H1, I1, r1, q1⟩ => ?_) (he _)
  obtain ⟨d, rfl, q⟩ := q1
  cases r1
  exact wpAny_truthy_bool ⟨H1, I1, q⟩
variable {tA tB' : TT} {rest : List Expr}
def tAnd (t u : TT) : TT := fun σ H Q => t σ H fun c H1 => if c = true then u σ H1 Q else Q false H1
def tOr (t u : TT) : TT := fun σ H Q => t σ H fun c H1 => if c = true then Q true H1 else u σ H1 Q
def tNot (t : TT) : TT := fun σ H Q => t σ H fun c H1 => Q (!c) H1
theorem pw_and1 (ha : PT X a tA) : PW X (.BoolOp .And [a] pos) tA := by
  intro wh pins s σ H Q I h
  refine isTrue_and (thn (ha pins s σ H Q I h) fun c s1 e => ?_)
  cases c with
  | true => exact isTrue_and_nil e
  | false => exact e
theorem pw_or1 (ha : PT X a tA) : PW X (.BoolOp .Or [a] pos) tA := by
  intro wh pins s σ H Q I h
  refine isTrue_or (thn (ha pins s σ H Q I h) fun c s1 e => ?_)
  cases c with
  | false => exact isTrue_or_nil e
  | true => exact e
theorem pw_and (ha : PT X a tA) (hb : PW X (.BoolOp .And (b :: rest) pos) tB') : PW X (.BoolOp .And (a :: b :: rest) pos) (tAnd tA tB') := by
  intro wh pins s σ H Q I h
  refine isTrue_and (thn (ha pins s σ H _ I h) fun c s1 ⟨H1, I1, q1⟩ => ?_)
  cases c with
  | true => exact hb wh pins s1 σ H1 Q I1 q1
  | false => exact ⟨H1, I1, q1⟩
theorem pw_or (ha : PT X a tA) (hb : PW X (.BoolOp .Or (b :: rest) pos) tB') : PW X (.BoolOp .Or (a :: b :: rest) pos) (tOr tA tB') := by
  intro wh pins s σ H Q I h
  refine isTrue_or (thn (ha pins s σ H _ I h) fun c s1 ⟨H1, I1, q1⟩ => ?_)
  cases c with
  | true => exact ⟨H1, I1, q1⟩
  | false => exact hb wh pins s1 σ H1 Q I1 q1
theorem pt_not (ha : PT X a tA) : PT X (.UnaryOp .Not a pos) (tNot tA) := by
  intro pins s σ H Q I h
  exact isTrue_not (ha pins s σ H (fun c H1 => Q (!c) H1) I h)
def tAndV (ta tb : TE) : TE := fun σ H Q => ta σ H fun x H1 => ∃ c, x = .bl c ∧ if c = true then tb σ H1 Q else Q (.bl false) H1
def tOrV (ta tb : TE) : TE := fun σ H Q => ta σ H fun x H1 => ∃ c, x = .bl c ∧ if c = true then Q (.bl true) H1 else tb σ H1 Q
def tNotV (ta : TE) : TE := fun σ H Q => ta σ H fun x H1 => ∃ c, x = .bl c ∧ Q (.bl (!c)) H1
theorem pe_one {op} {t : TE} (h : PE X a t) : PE X (.BoolOp op [a] pos) t := fun pins s σ H Q I hw => BoolOp_one (h pins s σ H Q I hw)
theorem pe_and (ha : PE X a ta) (hb : PE X (.BoolOp .And (b :: rest) pos) tb) : PE X (.BoolOp .And (a :: b :: rest) pos) (tAndV ta tb) := by
  intro pins s σ H Q I h
  refine BoolOp_and (thn (ha pins s σ H _ I h) fun v s1 ⟨x, H1, I1, r1, q1⟩ => ?_)
  obtain ⟨c, rfl, q1⟩ := q1
  cases r1
  refine wpAny_truthy_bool ?_
  cases c with
  | true => exact hb pins s1 σ H1 Q I1 q1
  | false => exact ⟨.bl false, H1, I1, rfl, q1⟩
theorem pe_not (ha : PE X a ta) : PE X (.UnaryOp .Not a pos) (tNotV ta) := by
  intro pins s σ H Q I h
  refine UnaryOp_ (thn (ha pins s σ H _ I h) fun v s1 ⟨x, H1, I1, r1, q1⟩ => ?_)
  obtain ⟨c, rfl, q1⟩ := q1
  cases r1
  exact not_of (wpAny_truthy_bool ⟨.bl (!c), H1, I1, rfl, q1⟩)
def tIf (t : TT) (ta tb : TE) : TE := fun σ H Q => t σ H fun c H1 => if c = true then ta σ H1 Q else tb σ H1 Q
theorem pe_ifExp {c : Expr} (hc : PT X c tA) (ha : PE X a ta) (hb : PE X b tb) : PE X (.IfExp c a b pos) (tIf tA ta tb) := by
  intro pins s σ H Q I h
  refine wpAny_IfExp (thn (hc pins s σ H _ I h) fun d s1 ⟨H1, I1, q1⟩ => ?_)
  cases d with
  | true => exact ha pins s1 σ H1 Q I1 q1
  | false => exact hb pins s1 σ H1 Q I1 q1
end
end L2
namespace L2
open PySem PySem.Spec PyProof.Rows
def SqL (K : PySem.W.Frag) (H : Hp) (a : Addr) (xs : List V) : Prop :=
  Rd H a (.lst xs) ∨
    ∃ (o : Obj) (its : Array Value) (n : Nat), K.lookup a = some o ∧ o.cls = .type "list" ∧ o.dict = none ∧ o.data = .seq its n ∧ its.size ≤ sizeLine ∧ Vals xs its.toList
def SqT (K : PySem.W.Frag) (H : Hp) (a : Addr) (xs : List V) : Prop :=
  Rd H a (.tup xs) ∨
    ∃ (o : Obj) (its : Array Value) (n : Nat), K.lookup a = some o ∧ o.cls = .type "tuple" ∧ o.data = .seq its n ∧ its.size ≤ sizeLine ∧ Vals xs its.toList
def absV : Value → Option V
  | .none => some .non
  | .bool b => some (.bl b)
  | .int i _ => some (.int i)
  | .str x _ => some (.str x)
  | .bytes b _ => some (.byt b)
  | .float b _ => some (.flt b)
  | .ref a => some (.ref a)
  | .type n => some (.ty n)
  | _ => none
theorem RelV.abs {x : V} {u : Value} (r : RelV x u) : absV u = some x := by
  cases x with
  | non => cases r; rfl
  | bl _ => cases r; rfl
  | int _ => obtain ⟨t, rfl⟩ := r; rfl
  | str _ => obtain ⟨t, rfl⟩ := r; rfl
  | byt _ => obtain ⟨t, rfl⟩ := r; rfl
  | flt _ => obtain ⟨t, rfl⟩ := r; rfl
  | ref _ => cases r; rfl
  | ty _ => cases r; rfl
theorem RelV.inj {x y : V} {u : Value} (r : RelV x u) (q : RelV y u) : x = y := Option.some.inj (r.abs.symm.trans q.abs)
theorem Vals.inj : ∀ {xs ys : List V} {us : List Value}, Vals xs us → Vals ys us → xs = ys
  | _, _, _, .nil, .nil => rfl
  | _, _, _, .cons r t, .cons r' t' => by rw [r.inj r', Vals.inj t t']
section
variable {X : Cx} {pins : List (Addr × Obj)} {σ : St} {H : Hp} {s : Shared} {a : Addr} {xs ys : List V}
theorem SqL.of {K : PySem.W.Frag} (h : H a = some (.lst xs)) : SqL K H a xs := .inl (.inl h)
theorem SqT.of {K : PySem.W.Frag} (h : H a = some (.tup xs)) : SqT K H a xs := .inl (.inl h)
theorem Inv.list (I : Inv X pins σ H s) (h : SqL X.K H a xs) : ∃ its : List Value, Vals xs its ∧ PlainL s.heap a its.toArray ∧ xs.length ≤ sizeLine := by
  rcases h with h | ⟨o, its, n, hk, hc, hd, hs, hz, r⟩
  · obtain ⟨z, its, n, r, e⟩ := h.ok I.hok
    exact ⟨its, r, ⟨_, n, e, rfl, rfl, rfl⟩, z⟩
  · refine ⟨its.toList, r, ⟨o, n, I.kIn a o hk, hc, hd, by simpa using hs⟩, ?_⟩
    have e := r.length
    simp only [Array.length_toList] at e
    omega
theorem Inv.tuple (I : Inv X pins σ H s) (h : SqT X.K H a xs) : ∃ its : List Value, Vals xs its ∧ IsTup s.heap a its.toArray ∧ xs.length ≤ sizeLine := by
  rcases h with h | ⟨o, its, n, hk, hc, hs, hz, r⟩
  · obtain ⟨z, its, r, p⟩ := h.ok I.hok
    exact ⟨its, r, p, z⟩
  · refine ⟨its.toList, r, ⟨o, I.kIn a o hk, hc, n, by simpa using hs⟩, ?_⟩
    have e := r.length
    simp only [Array.length_toList] at e
    omega
theorem Inv.list_inj (I : Inv X pins σ H s) (h : SqL X.K H a xs) (h' : SqL X.K H a ys) : xs = ys := by
  obtain ⟨its, r, ⟨o, n, e, _, _, d⟩, _⟩ := I.list h
  obtain ⟨its', r', ⟨o', n', e', _, _, d'⟩, _⟩ := I.list h'
  rw [e] at e'; cases e'
  rw [d] at d'
  injection d' with d1 _
  have : its = its' := by simpa using congrArg Array.toList d1
  subst this
  exact r.inj r'
theorem Inv.tuple_inj (I : Inv X pins σ H s) (h : SqT X.K H a xs) (h' : SqT X.K H a ys) : xs = ys := by
  obtain ⟨its, r, ⟨o, e, _, n, d⟩, _⟩ := I.tuple h
  obtain ⟨its', r', ⟨o', e', _, n', d'⟩, _⟩ := I.tuple h'
  rw [e] at e'; cases e'
  rw [d] at d'
  injection d' with d1 _
  have : its = its' := by simpa using congrArg Array.toList d1
  subst this
  exact r.inj r'
end
abbrev Cx.wish (X : Cx) (E : Value → Shared → Prop) : Cx := { X with xe := E }
abbrev Cx.nox (X : Cx) : Cx := X.wish fun _ _ => False
theorem Cx.Ok.wish {X : Cx} (ok : X.Ok) (E : Value → Shared → Prop) : (X.wish E).Ok :=
  ⟨ok.mod, ok.kind, ok.glob, ok.blt, ok.above, ok.inj, ok.has, ok.cab, ok.hd, ok.frames, ok.stk, ok.exf, ok.bs, ok.bsz, ok.noex, ok.exfs, ok.funs, ok.frf⟩
theorem Cx.Ok.unwish {X : Cx} {E : Value → Shared → Prop} (ok : (X.wish E).Ok) : X.Ok :=
  ⟨ok.mod, ok.kind, ok.glob, ok.blt, ok.above, ok.inj, ok.has, ok.cab, ok.hd, ok.frames, ok.stk, ok.exf, ok.bs, ok.bsz, ok.noex, ok.exfs, ok.funs, ok.frf⟩
section
variable {X : Cx} {pins : List (Addr × Obj)} {σ : St} {H : Hp} {s : Shared} {E : Value → Shared → Prop}
theorem Inv.wish (I : Inv X pins σ H s) (E : Value → Shared → Prop) : Inv (X.wish E) pins σ H s := ⟨I.ok.wish E, I.os, I.bare, I.base, I.loc, I.cell, I.free, I.freeC, I.pin, I.hok, I.len⟩
theorem Inv.unwish (I : Inv (X.wish E) pins σ H s) : Inv X pins σ H s := ⟨I.ok.unwish, I.os, I.bare, I.base, I.loc, I.cell, I.free, I.freeC, I.pin, I.hok, I.len⟩
theorem SP.unwish {D : Ends} {f : Flow} {s' : Shared} (h : SP (X.wish E) pins D f s') : SP X pins D f s' := by
  cases f with
  | next => obtain ⟨σ', H', I, q⟩ := h; exact ⟨σ', H', I.unwish, q⟩
  | brk => obtain ⟨σ', H', I, q⟩ := h; exact ⟨σ', H', I.unwish, q⟩
  | cont => obtain ⟨σ', H', I, q⟩ := h; exact ⟨σ', H', I.unwish, q⟩
  | ret u => obtain ⟨v, σ', H', I, r, q⟩ := h; exact ⟨v, σ', H', I.unwish, r, q⟩
theorem PE.nox {e : Expr} {t : TE} (h : PE X.nox e t) : PE X e t := fun pins s σ H Q I hw =>
  wpAny_mono (h pins s σ H Q (I.wish _) hw) (fun _ _ ⟨v, H', I', r, q⟩ => ⟨v, H', I'.unwish, r, q⟩) fun _ _ z => False.elim z
theorem PT.nox {e : Expr} {t : TT} (h : PT X.nox e t) : PT X e t := fun pins s σ H Q I hw =>
  wpAny_mono (h pins s σ H Q (I.wish _) hw) (fun _ _ ⟨H', I', q⟩ => ⟨H', I'.unwish, q⟩) fun _ _ z => False.elim z
theorem PSs.nox {st : List Stmt} {t : TS} (h : PSs X.nox st t) : PSs X st t := fun pins s σ H D I hw =>
  wpAny_mono (h pins s σ H D (I.wish _) hw) (fun _ _ q => q.unwish) fun _ _ z => False.elim z
end
section
variable {X : Cx} {st : Stmt} {rest : List Stmt} {t u : TS} {e : Expr} {te : TE} {pos : Pos}
def tNext : TS := fun D σ H => D.nx σ H
def tSeq (t u : TS) : TS := fun D σ H => t { D with nx := u D } σ H
theorem pss_nil : PSs X [] tNext := fun _ _ σ H _ I h => wpAny_execs_nil ⟨σ, H, I, h⟩
theorem pss_cons (h1 : PS X st t) (h2 : PSs X rest u) : PSs X (st :: rest) (tSeq t u) := by
  intro pins s σ H D I h
  refine wpAny_execs_cons (thn (h1 pins s σ H { D with nx := u D } I h) fun f s1 q => ?_)
  cases f with
  | next =>
    obtain ⟨σ', H', I', q⟩ := q
    exact h2 pins s1 σ' H' D I' q
  | ret v => exact q
  | brk => exact q
  | cont => exact q
theorem pss_one (h1 : PS X st t) : PSs X [st] t := by
  intro pins s σ H D I h
  refine wpAny_execs_cons (thn (h1 pins s σ H D I h) fun f s1 q => ?_)
  cases f with
  | next => exact wpAny_execs_nil q
  | ret v => exact q
  | brk => exact q
  | cont => exact q
theorem Inv.quiet {pins : List (Addr × Obj)} {σ : St} {H : Hp} {s : Shared} (I : Inv X pins σ H s) : interactive X.env = false := by simp [interactive, I.ok.kind]
def tDrop (te : TE) : TS := fun D σ H => te σ H fun _ H1 => D.nx σ H1
theorem ps_expr (he : PE X e te) (hs : swapsWith e none pos.line X.env = pure false := by rfl) : PS X (.Expr e pos) (tDrop te) := by
  intro pins s σ H D I h
  exact wpAny_Expr_any (thn (he pins s σ H _ I h) fun v s1 ⟨x, H1, I1, r1, q1⟩ => ⟨σ, H1, I1, q1⟩) I.quiet hs
def tRet (te : TE) : TS := fun D σ H => te σ H D.rt
theorem ps_ret (he : PE X e te) : PS X (.Return (some e) pos) (tRet te) := by
  intro pins s σ H D I h
  exact wpAny_Return_some (thn (he pins s σ H _ I h) fun v s1 ⟨x, H1, I1, r1, q1⟩ => ⟨x, σ, H1, I1, r1, q1⟩)
def tRetN : TS := fun D _ H => D.rt .non H
def tIfS (c : TT) (t u : TS) : TS := fun D σ H => c σ H fun b H1 => if b = true then t D σ H1 else u D σ H1
theorem ps_if {c : Expr} {a b : List Stmt} {tc : TT} (hc : PT X c tc) (ha : PSs X a t) (hb : PSs X b u) : PS X (.If c a b pos) (tIfS tc t u) := by
  intro pins s σ H D I h
  refine wpAny_If (thn (hc pins s σ H _ I h) fun d s1 ⟨H1, I1, q1⟩ => ?_)
  cases d with
  | true => exact ha pins s1 σ H1 D I1 q1
  | false => exact hb pins s1 σ H1 D I1 q1
def tNever : TS := fun _ _ _ => False
theorem ps_never : PS X st tNever := fun _ _ _ _ _ _ h => h.elim
end
abbrev TG := V → St → Hp → (St → Hp → Prop) → Prop
abbrev TGs := List V → St → Hp → (St → Hp → Prop) → Prop
def PG (X : Cx) (target : Expr) (t : TG) : Prop :=
  ∀ (pins : List (Addr × Obj)) (s : Shared) (σ : St) (H : Hp) (v : V) (u : Value) (Q : St → Hp → Prop), Inv X pins σ H s → RelV v u → t v σ H Q →
    wpAny (model X.prog X.w) X.A (assign target X.env u) (fun _ s' => ∃ σ' H', Inv X pins σ' H' s' ∧ Q σ' H') X.xe s
def PGs (X : Cx) (ts : List Expr) (t : TGs) : Prop :=
  ∀ (pins : List (Addr × Obj)) (s : Shared) (σ : St) (H : Hp) (vs : List V) (us : List Value) (Q : St → Hp → Prop), Inv X pins σ H s → Vals vs us → t vs σ H Q →
    wpAny (model X.prog X.w) X.A (assignInOrder ((assignEach ts X.env).map (·.2)) us) (fun _ s' => ∃ σ' H', Inv X pins σ' H' s' ∧ Q σ' H') X.xe s
abbrev TSet := V → V → V → Hp → (Hp → Prop) → Prop
def PSet (X : Cx) (t : TSet) : Prop :=
  ∀ (pins : List (Addr × Obj)) (s : Shared) (σ : St) (H : Hp) (o i v : V) (ov iv u : Value) (Q : Hp → Prop), Inv X pins σ H s → RelV o ov → RelV i iv → RelV v u → t o i v H Q →
    wpAny (model X.prog X.w) X.A (setItem ov iv u) (fun _ s' => ∃ H', Inv X pins σ H' s' ∧ Q H') X.xe s
section
variable {X : Cx} {pos : Pos}
def gName (i : Nat) : TG := fun v σ H Q => Q (σ.set i (some v)) H
theorem pg_name {i : Nat} {x : Str} (hN : X.N.Nodup) (hi : X.N[i]? = some x) (hx : Loc X.env.scope x) (hf : X.fn x = true ∨ X.env.scope.names.lookup x = some .local := by first | exact .inl rfl | exact .inr rfl | assumption) : PG X (.Name x pos) (gName i) := by
  intro pins s σ H v u Q I r h
  exact wpAny_assign_Name (store_ok I hN hi hx r (fun s' I' => ⟨_, H, I', h⟩) hf)
def gNil : TGs := fun vs σ H Q => vs = [] ∧ Q σ H
def gCons (t : TG) (u : TGs) : TGs := fun vs σ H Q => ∃ v r, vs = v :: r ∧ t v σ H fun σ' H' => u r σ' H' Q
theorem pgs_nil : PGs X [] gNil := by
  intro pins s σ H vs us Q I r h
  obtain ⟨e, h⟩ := h
  subst e
  cases r
  exact assignInOrder_nil ⟨σ, H, I, h⟩
theorem pgs_cons {e : Expr} {es : List Expr} {t : TG} {u : TGs} (h1 : PG X e t) (h2 : PGs X es u)
    (hs : (assignEach (e :: es) X.env).map (·.2) = assign e X.env :: (assignEach es X.env).map (·.2) := by rfl) : PGs X (e :: es) (gCons t u) := by
  intro pins s σ H vs us Q I r h
  obtain ⟨v, vr, e1, h⟩ := h
  subst e1
  cases r with
  | cons r rr =>
    rw [hs]
    refine assignInOrder_cons (thn (h1 pins s σ H _ _ _ I r h) fun _ s1 ⟨σ1, H1, I1, q1⟩ => ?_)
    exact h2 pins s1 σ1 H1 _ _ Q I1 rr q1
def gTup (K : PySem.W.Frag) (n : Nat) (t : TGs) : TG := fun v σ H Q => ∃ a xs, v = .ref a ∧ SqT K H a xs ∧ xs.length = n ∧ t xs σ H Q
theorem pg_tup {es : List Expr} {k : Nat} {t : TGs} {n : Nat} (hc : X.calm = true) (h : PGs X es t)
    (hn : (assignEach es X.env).length = n := by rfl) (hst : (assignEach es X.env).findIdx? (·.1) = none := by rfl) : PG X (.Tuple es k pos) (gTup X.K n t) := by
  intro pins s σ H v u Q I r hw
  obtain ⟨a, xs, e1, hq, hl, hw⟩ := hw
  subst e1
  cases r
  obtain ⟨its, rv, ht, hz⟩ := I.tuple hq
  refine assign_Tuple_tuple (I.ok.hd hc) ht (by simp [hn, ← hl, rv.length]) hst fun h' hx => ?_
  have I1 : Inv X pins σ H { s with heap := h' } := I.kept (t' := s.toks) fun b o e => hx b o (Nat.ne_of_lt (Heap.lt_size e)) e
  exact h pins _ σ H xs _ Q I1 (by simpa using rv) hw
def gSub (to ti : TE) (t : TSet) : TG := fun v σ H Q => to σ H fun o H1 => ti σ H1 fun i H2 => t o i v H2 fun H3 => Q σ H3
theorem pg_sub {o i : Expr} {to ti : TE} {t : TSet} (ho : PE X o to) (hi : PE X i ti) (hs : PSet X t)
    (ha : ∀ v, assign (.Subscript o i pos) X.env v = (do
      let ov ← holding [v] (eval o X.env)
      let iv ← holding [v, ov] (eval i X.env)
      standAt pos
      holding [v, ov, iv] (setItem ov iv v)
      release [v, ov, iv] []) := by intro _; rfl) : PG X (.Subscript o i pos) (gSub to ti t) := by
  intro pins s σ H v u Q I r h
  rw [ha]
  refine wpAny_bind (wpAny_holding (thn (ho pins s σ H _ I h) fun ov s1 ⟨x, H1, I1, r1, q1⟩ => ?_))
  refine wpAny_bind (wpAny_holding (thn (hi pins s1 σ H1 _ I1 q1) fun iv s2 ⟨y, H2, I2, r2, q2⟩ => ?_))
  refine wpAny_bind (wpAny_standAt (wpAny_bind (wpAny_holding (thn (hs pins s2 σ H2 x y v ov iv u _ I2 r1 r2 r q2) fun _ s3 ⟨H3, I3, q3⟩ => ?_))))
  exact wpAny_release ⟨σ, H3, I3, q3⟩
def tAsg (te : TE) (g : TG) : TS := fun D σ H => te σ H fun x H1 => g x σ H1 D.nx
theorem ps_asg {tg e : Expr} {te : TE} {g : TG} (he : PE X e te) (hg : PG X tg g) (hs : swapsWithSole [tg] e pos.line X.env = pure false := by rfl) (hw : swappedStores [tg] e X.env = pure none := by rfl)
    (h1 : (assignEach [tg] X.env).map (·.2) = [assign tg X.env] := by rfl) : PS X (.Assign [tg] e pos) (tAsg te g) := by
  intro pins s σ H D I h
  refine wpAny_Assign_stores (thn (he pins s σ H _ I h) fun v s1 ⟨x, H1, I1, r1, q1⟩ => ?_) hs hw
  rw [h1]
  exact thn (hg pins s1 σ H1 x v _ I1 r1 q1) fun _ s2 q => q
theorem ps_set {i : Nat} {x : Str} {e : Expr} {te : TE} {pos' : Pos} (hN : X.N.Nodup) (hi : X.N[i]? = some x) (hx : Loc X.env.scope x) (he : PE X e te) (hs : swapsWith e (some (.Name x pos')) pos.line X.env = pure false := by rfl) (hf : X.fn x = true ∨ X.env.scope.names.lookup x = some .local := by first | exact .inl rfl | exact .inr rfl | assumption) :
    PS X (.Assign [.Name x pos'] e pos) (tAsg te (gName i)) := by
  intro pins s σ H D I h
  refine wpAny_Assign_Name (thn (he pins s σ H _ I h) fun v s1 ⟨y, H1, I1, r1, q1⟩ => ?_) hs
  exact store_ok I1 hN hi hx r1 (fun s2 I2 => ⟨_, H1, I2, q1⟩) hf
end
section
variable {X : Cx} {pos : Pos}
end
structure It where
  go : Nat → Hp → Prop
  yld : Nat → Hp → V → Hp → Prop
  stop : Nat → Hp → Prop
def FpOk (X : Cx) (pins : List (Addr × Obj)) (H : Hp) (b : Addr) : Prop :=
  H b = none ∧ b ≠ X.env.locals ∧ b ∉ X.fs ∧ (b ∈ X.ex ∨ X.s₀.heap.objs.size ≤ b) ∧ (∀ x c, X.env.cells.lookup x = some c → c ≠ b) ∧ ∀ p ∈ X.pn ++ pins, p.1 ≠ b
theorem Inv.fpOk {X : Cx} {pins : List (Addr × Obj)} {σ : St} {H H' : Hp} {s : Shared} {b : Addr} (I : Inv X pins σ H s) (hb : s.heap.objs.size ≤ b) (hn : H' b = none) : FpOk X pins H' b := by
  refine ⟨hn, Nat.ne_of_gt (Nat.lt_of_lt_of_le I.lt hb), I.nofs hb, .inr (Nat.le_trans I.sz hb), fun x c e z => ?_, fun p hp z => ?_⟩
  · obtain ⟨v, q⟩ := I.cell x c e
    exact absurd (Nat.lt_of_lt_of_le q.lt (by rw [z]; exact hb)) (Nat.lt_irrefl _)
  · exact absurd (Nat.lt_of_lt_of_le (Heap.lt_size (I.pin p hp).1) (by rw [z]; exact hb)) (Nat.lt_irrefl _)
structure Turn (P : Program) (w : World) (K : PySem.W.Frag) (tg : Expr) (J : It) (fp : List Addr) (it : Addr) (tn : Nat → Heap → Prop) : Prop where
  mem : it ∈ fp
  obj : ∀ i h, tn i h → ∀ b ∈ fp, ∃ o, h.get? b = some o ∧ ∀ v, o.data ≠ .cell v
  keep : ∀ i h h', tn i h → (∀ b ∈ fp, ∀ o, h.get? b = some o → h'.get? b = some o) → tn i h'
  item : ∀ (X : Cx), X.prog = P → X.w = w → X.K = K → X.calm = true → ∀ (i : Nat) (pins : List (Addr × Obj)) (s : Shared) (σ : St) (H : Hp) (E : Value → Shared → Prop), Inv X pins σ H s → (∀ b ∈ fp, FpOk X pins H b) → tn i s.heap → J.go i H →
    wpAny (model P w) X.A (pyNext (.ref it)) (fun r s1 => ∃ u, r = some u ∧
      wpAny (model P w) X.A (letOwnedTupleGo tg (.ref it) u) (fun _ s2 => ∃ x H', Inv X pins σ H' s2 ∧ RelV x u ∧ J.yld i H x H' ∧ tn (i + 1) s2.heap ∧ ∀ b ∈ fp, H' b = none) E s1) E s
  done : ∀ (X : Cx), X.prog = P → X.w = w → X.K = K → X.calm = true → ∀ (i : Nat) (pins : List (Addr × Obj)) (s : Shared) (σ : St) (H : Hp) (E : Value → Shared → Prop), Inv X pins σ H s → (∀ b ∈ fp, FpOk X pins H b) → tn i s.heap → J.stop i H →
    wpAny (model P w) X.A (pyNext (.ref it)) (fun r s1 => r = none ∧ Inv X pins σ H s1) E s
  self : ∀ (A : Around) (i : Nat) (s : Shared) (Q : Value → Shared → Prop) (E : Value → Shared → Prop), tn i s.heap → Q (.ref it) s → wpAny (model P w) A (pyIter (.ref it)) Q E s
abbrev TI := St → Hp → (It → Hp → Prop) → Prop
def PIE (X : Cx) (pins : List (Addr × Obj)) (σ : St) (tg : Expr) (R : It → Hp → Prop) (itv : Value) (s2 : Shared) : Prop :=
  ∃ (it : Addr) (fp : List Addr) (tn : Nat → Heap → Prop) (J : It) (H' : Hp), itv = .ref it ∧ Inv X pins σ H' s2 ∧ Turn X.prog X.w X.K tg J fp it tn ∧ tn 0 s2.heap ∧ (∀ b ∈ fp, FpOk X pins H' b) ∧ R J H'
def PI (X : Cx) (tg iter : Expr) (wi : TI) : Prop :=
  ∀ (pins : List (Addr × Obj)) (s : Shared) (σ : St) (H : Hp) (R : It → Hp → Prop), Inv X pins σ H s → wi σ H R →
    wpAny (model X.prog X.w) X.A (eval iter X.env) (fun v s1 => wpAny (model X.prog X.w) X.A (pyIter v) (PIE X pins σ tg R) X.xe s1) X.xe s
theorem go_of {M : Model} {A : Around} {E : Value → Shared → Prop} {s : Shared} {tg : Expr} {it : Addr} {u : Value} {o : Obj} {n : String} {vs : Array Value} {Q : Unit → Shared → Prop} (ho : s.heap.get? it = some o) (hc : o.cls = .type n) (hd : o.data = .fields vs)
    (hn : ["enumerate", "zip", "dict_itemiterator", "dict_reverseitemiterator", "odict_iterator", "itertools.zip_longest", "itertools.pairwise"].contains n = false) (hQ : Q () s) : wpAny M A (letOwnedTupleGo tg (.ref it) u) Q E s := by
  unfold letOwnedTupleGo
  cases tg <;> first
    | exact wpAny_pure hQ
    | (cases u <;> first
        | exact wpAny_pure hQ
        | (refine wpAny_bind (wpAny_load ho ?_)
           rw [hc, hd]
           show wpAny M A (if (["enumerate", "zip", "dict_itemiterator", "dict_reverseitemiterator", "odict_iterator", "itertools.zip_longest", "itertools.pairwise"].contains n && vs[0]? == some (rawInt _)) = true then _ else _) Q E s
           rw [if_neg (by intro h; rw [hn, Bool.false_and] at h; cases h)]
           exact wpAny_pure hQ))
def Itl (K : PySem.W.Frag) (a : Addr) : It :=
  ⟨fun i H => ∃ xs x, SqL K H a xs ∧ xs[i]? = some x, fun i H x H' => H' = H ∧ ∀ xs, SqL K H a xs → xs[i]? = some x, fun i H => ∃ xs, SqL K H a xs ∧ xs.length ≤ i⟩
def Itt (K : PySem.W.Frag) (a : Addr) : It :=
  ⟨fun i H => ∃ xs x, SqT K H a xs ∧ xs[i]? = some x, fun i H x H' => H' = H ∧ ∀ xs, SqT K H a xs → xs[i]? = some x, fun i H => ∃ xs, SqT K H a xs ∧ xs.length ≤ i⟩
def Itr (lo : Int) (n : Nat) : It := ⟨fun i _ => i < n, fun i H x H' => H' = H ∧ x = .int (lo + i), fun i _ => n ≤ i⟩
theorem turn_list {P : Program} {w : World} {K : PySem.W.Frag} {tg : Expr} (a it : Addr) : Turn P w K tg (Itl K a) [it] it (fun i h => h.IsListIter it a i) where
  mem := by simp
  obj := fun i h st b hb => by
    have e : b = it := by simpa using hb
    subst e
    obtain ⟨o, e, c, d⟩ := st
    exact ⟨o, e, fun v z => by rw [d] at z; cases z⟩
  keep := fun i h h' st k => st.at fun o e => k it (by simp) o e
  item := by
    intro X hP hw hK hc i pins s σ H E I hf st hg
    subst hP hw hK
    obtain ⟨xs, x, hq, hx⟩ := hg
    obtain ⟨its, rv, p, hz⟩ := I.list hq
    obtain ⟨u, hu, ru⟩ := rv.get hx
    obtain ⟨f0, f1, f2, f3, f4, f5⟩ := hf it (by simp)
    refine wpAny_pyNext_list_item st p.isList (x := u) (by simpa using hu) fun h' st' sb => ?_
    have I1 : Inv X pins σ H { s with heap := h' } := I.turned (t' := s.toks) (fun b o hb e => (sb.2 b hb).trans e) f0 f1 f3 f4 f5
    obtain ⟨o, e, c, d⟩ := id st'
    exact ⟨u, rfl, go_of (s := { s with heap := h' }) e c d (by decide) ⟨x, H, I1, ru, ⟨rfl, fun ys hy => by rw [I.list_inj hy hq]; exact hx⟩, st', fun b hb => (hf b hb).1⟩⟩
  done := by
    intro X hP hw hK hc i pins s σ H E I hf st hg
    subst hP hw hK
    obtain ⟨xs, hq, hx⟩ := hg
    obtain ⟨its, rv, p, hz⟩ := I.list hq
    obtain ⟨f0, f1, f2, f3, f4, f5⟩ := hf it (by simp)
    have hl := rv.length
    exact wpAny_pyNext_list_end (I.ok.hd hc) st p.isList (by simp; omega) fun h' eb => ⟨rfl, I.turned (t' := s.toks) (fun b o hb e => eb b o hb e) f0 f1 f3 f4 f5⟩
  self := fun _ _ _ _ _ st h => wpAny_pyIter_listiter st h
theorem turn_tuple {P : Program} {w : World} {K : PySem.W.Frag} {tg : Expr} (a it : Addr) : Turn P w K tg (Itt K a) [it] it (fun i h => h.IsTupleIter it a i) where
  mem := by simp
  obj := fun i h st b hb => by
    have e : b = it := by simpa using hb
    subst e
    obtain ⟨o, e, c, d⟩ := st
    exact ⟨o, e, fun v z => by rw [d] at z; cases z⟩
  keep := fun i h h' st k => st.at fun o e => k it (by simp) o e
  item := by
    intro X hP hw hK hc i pins s σ H E I hf st hg
    subst hP hw hK
    obtain ⟨xs, x, hq, hx⟩ := hg
    obtain ⟨its, rv, p, hz⟩ := I.tuple hq
    obtain ⟨u, hu, ru⟩ := rv.get hx
    obtain ⟨f0, f1, f2, f3, f4, f5⟩ := hf it (by simp)
    refine wpAny_pyNext_tuple_item st (show s.heap.IsTuple a its.toArray from p) (x := u) (by simpa using hu) fun h' st' sb => ?_
    have I1 : Inv X pins σ H { s with heap := h' } := I.turned (t' := s.toks) (fun b o hb e => (sb.2 b hb).trans e) f0 f1 f3 f4 f5
    obtain ⟨o, e, c, d⟩ := id st'
    exact ⟨u, rfl, go_of (s := { s with heap := h' }) e c d (by decide) ⟨x, H, I1, ru, ⟨rfl, fun ys hy => by rw [I.tuple_inj hy hq]; exact hx⟩, st', fun b hb => (hf b hb).1⟩⟩
  done := by
    intro X hP hw hK hc i pins s σ H E I hf st hg
    subst hP hw hK
    obtain ⟨xs, hq, hx⟩ := hg
    obtain ⟨its, rv, p, hz⟩ := I.tuple hq
    obtain ⟨f0, f1, f2, f3, f4, f5⟩ := hf it (by simp)
    have hl := rv.length
    exact wpAny_pyNext_tuple_end (I.ok.hd hc) st (show s.heap.IsTuple a its.toArray from p) (by simp; omega) fun h' eb => ⟨rfl, I.turned (t' := s.toks) (fun b o hb e => eb b o hb e) f0 f1 f3 f4 f5⟩
  self := fun _ _ _ _ _ st h => wpAny_pyIter_tupleiter st h
theorem turn_range {P : Program} {w : World} {K : PySem.W.Frag} {tg : Expr} (it : Addr) (lo : Int) (n : Nat) : Turn P w K tg (Itr lo n) [it] it (fun i h => IsRangeIter h it (lo + (i : Nat) * 1) ((n : Int) - (i : Nat)) 1) where
  mem := by simp
  obj := fun i h st b hb => by
    have e : b = it := by simpa using hb
    subst e
    exact ⟨_, st, fun v z => by
      have z' : Data.fields _ = Data.cell v := z
      cases z'⟩
  keep := fun i h h' st k => k it (by simp) _ st
  item := by
    intro X hP hw hK hc i pins s σ H E I hf st hg
    subst hP hw hK
    obtain ⟨f0, f1, f2, f3, f4, f5⟩ := hf it (by simp)
    have W := Walks.range (prog := X.prog) (w := X.w) (I.ok.hd hc) it lo 1 n
    refine W.item i s _ _ hg st fun v h' tk hv st' kk => ?_
    obtain ⟨t, rfl⟩ := hv
    have I1 : Inv X pins σ H { s with heap := h', toks := tk } := I.turned (fun b o hb e => kk b o (by simpa using hb) e) f0 f1 f3 f4 f5
    refine ⟨_, rfl, go_of (s := { s with heap := h', toks := tk }) (n := "range_iterator") st' rfl rfl (by decide) ⟨.int (lo + i), H, I1, ⟨t, ?_⟩, ⟨rfl, rfl⟩, st', fun b hb => (hf b hb).1⟩⟩
    rw [Int.mul_one]
  done := by
    intro X hP hw hK hc i pins s σ H E I hf st hg
    subst hP hw hK
    obtain ⟨f0, f1, f2, f3, f4, f5⟩ := hf it (by simp)
    exact wpAny_pyNext_range_end (I.ok.hd hc) st (by have : n ≤ i := hg; omega) fun h' eb => ⟨rfl, I.turned (t' := s.toks) (fun b o hb e => eb b o hb e) f0 f1 f3 f4 f5⟩
  self := fun _ _ _ _ _ st h => wpAny_pyIter_rangeiter st h
end L2
namespace L2
open PySem PySem.Spec PyProof.Rows
section
variable {X : Cx} {tg : Expr}
def iList (K : PySem.W.Frag) (tl : TE) : TI := fun σ H R => tl σ H fun x H1 => ∃ a, x = .ref a ∧ (∃ xs, SqL K H1 a xs) ∧ R (Itl K a) H1
def iTup (K : PySem.W.Frag) (tl : TE) : TI := fun σ H R => tl σ H fun x H1 => ∃ a, x = .ref a ∧ (∃ xs, SqT K H1 a xs) ∧ R (Itt K a) H1
theorem pi_list {l : Expr} {tl : TE} (hl : PE X l tl) : PI X tg l (iList X.K tl) := by
  intro pins s σ H R I h
  refine thn (hl pins s σ H _ I h) fun v s1 ⟨x, H1, I1, r1, q1⟩ => ?_
  obtain ⟨a, e, ⟨xs, hq⟩, q⟩ := q1
  subst e
  cases r1
  obtain ⟨its, rv, p, hz⟩ := I1.list hq
  refine wpAny_pyIter_list p.isList ?_
  refine ⟨s1.heap.objs.size, [s1.heap.objs.size], _, _, H1, rfl, I1.kept (t' := s1.toks) fun b o e => Heap.get?_push_of_some _ e, turn_list a _, ⟨_, Heap.get?_push_size _ rfl, rfl, rfl⟩, fun b hb => ?_, q⟩
  have e : b = s1.heap.objs.size := by simpa using hb
  subst e
  exact I1.fpOk (Nat.le_refl _) (I1.hok.fresh (Nat.le_refl _))
theorem pi_tup {l : Expr} {tl : TE} (hl : PE X l tl) : PI X tg l (iTup X.K tl) := by
  intro pins s σ H R I h
  refine thn (hl pins s σ H _ I h) fun v s1 ⟨x, H1, I1, r1, q1⟩ => ?_
  obtain ⟨a, e, ⟨xs, hq⟩, q⟩ := q1
  subst e
  cases r1
  obtain ⟨its, rv, p, hz⟩ := I1.tuple hq
  refine wpAny_pyIter_tuple (show s1.heap.IsTuple a its.toArray from p) ?_
  refine ⟨s1.heap.objs.size, [s1.heap.objs.size], _, _, H1, rfl, I1.kept (t' := s1.toks) fun b o e => Heap.get?_push_of_some _ e, turn_tuple a _, ⟨_, Heap.get?_push_size _ rfl, rfl, rfl⟩, fun b hb => ?_, q⟩
  have e : b = s1.heap.objs.size := by simpa using hb
  subst e
  exact I1.fpOk (Nat.le_refl _) (I1.hok.fresh (Nat.le_refl _))
theorem range_it {pins : List (Addr × Obj)} {σ : St} {H : Hp} {s : Shared} {R : It → Hp → Prop} {E : Value → Shared → Prop} {lo hi : Int} {t u v : Tok} {tk : Nat} (I : Inv X pins σ H s) (h1 : -(2 ^ 62) ≤ lo) (h2 : lo < 2 ^ 62) (h3 : -(2 ^ 62) ≤ hi) (h4 : hi < 2 ^ 62)
    (q : R (Itr lo (hi - lo).toNat) H) : wpAny (model X.prog X.w) X.A (pyIter (.ref s.heap.objs.size)) (PIE X pins σ tg R) E { s with heap := s.heap.push { cls := .type "range", data := .fields #[.int lo t, .int hi u, .int 1 v] }, toks := tk } := by
  refine wpAny_pyIter_range (IsRange.new ..) (small_one h1 h2 h3 h4) ?_
  have I1 : Inv X pins σ H { s with heap := s.heap.push { cls := .type "range", data := .fields #[.int lo t, .int hi u, .int 1 v] }, toks := tk } := I.kept fun b o e => Heap.get?_push_of_some _ e
  refine ⟨(s.heap.push { cls := .type "range", data := .fields #[.int lo t, .int hi u, .int 1 v] }).objs.size, [(s.heap.push { cls := .type "range", data := .fields #[.int lo t, .int hi u, .int 1 v] }).objs.size], _, _, H, rfl,
    I1.kept (t' := tk) fun b o e => Heap.get?_push_of_some _ e, turn_range _ lo (hi - lo).toNat, ?_, fun b hb => ?_, q⟩
  · have e1 : lo + ((0 : Nat) : Int) * 1 = lo := by simp
    have e2 : (((hi - lo).toNat : Nat) : Int) - ((0 : Nat) : Int) = Builtin.Range.rangeSize lo hi 1 := by rw [rangeSize_one]; split <;> omega
    show IsRangeIter _ _ (lo + ((0 : Nat) : Int) * 1) ((((hi - lo).toNat : Nat) : Int) - ((0 : Nat) : Int)) 1
    rw [e1, e2]
    exact Heap.get?_push_size _ rfl
  · have e : b = (s.heap.push { cls := .type "range", data := .fields #[.int lo t, .int hi u, .int 1 v] }).objs.size := by simpa using hb
    subst e
    exact I1.fpOk (Nat.le_refl _) (I1.hok.fresh (Nat.le_refl _))
def iRng1 (ta : TA) : TI := fun σ H R => ta σ H fun vs H1 => ∃ j : Int, vs = [.int j] ∧ -(2 ^ 62) ≤ j ∧ j < 2 ^ 62 ∧ R (Itr 0 j.toNat) H1
def iRng2 (ta : TA) : TI := fun σ H R => ta σ H fun vs H1 => ∃ i j : Int, vs = [.int i, .int j] ∧ (-(2 ^ 62) ≤ i ∧ i < 2 ^ 62 ∧ -(2 ^ 62) ≤ j ∧ j < 2 ^ 62) ∧ R (Itr i (j - i).toNat) H1
theorem pi_range1 {a : Expr} {ta : TA} {p pos : Pos} (hg : Gl X "range") (hm : X.mg "range" = none) (ha : PA X [a] ta) (hs : starEach [a] X.env = [(false, eval a X.env)] := by rfl) : PI X tg (.Call (.Name "range" p) [a] [] pos) (iRng1 ta) := by
  intro pins s σ H R I h
  refine Call_ (ld_blt I hg hm boot_range (PyProof.Rows.callWith_type1 (thn (ha pos pins s σ H _ I h) fun us s1 ⟨vs, H1, I1, r1, q1⟩ => ?_) hs rfl))
  obtain ⟨j, e, q1, q2, q⟩ := q1
  subst e
  cases r1 with
  | cons r rr =>
    cases rr
    obtain ⟨t, rfl⟩ := r
    exact call_range_1 (range_it I1 (by omega) (by omega) q1 q2 (by simpa using q))
theorem pi_range2 {a b : Expr} {ta : TA} {p pos : Pos} (hg : Gl X "range") (hm : X.mg "range" = none) (ha : PA X [a, b] ta) (hs : starEach [a, b] X.env = [(false, eval a X.env), (false, eval b X.env)] := by rfl) (hs2 : starEach [b] X.env = [(false, eval b X.env)] := by rfl) :
    PI X tg (.Call (.Name "range" p) [a, b] [] pos) (iRng2 ta) := by
  intro pins s σ H R I h
  refine Call_ (ld_blt I hg hm boot_range (PyProof.Rows.callWith_type1 (thn (ha pos pins s σ H _ I h) fun us s1 ⟨vs, H1, I1, r1, q1⟩ => ?_) (by rw [hs, hs2]) (by rw [hs2]; rfl)))
  obtain ⟨i, j, e, ⟨q1, q2, q3, q4⟩, q⟩ := q1
  subst e
  cases r1 with
  | cons r rr =>
    cases rr with
    | cons r' rr =>
      cases rr
      obtain ⟨t, rfl⟩ := r
      obtain ⟨t', rfl⟩ := r'
      exact call_range_2 (range_it I1 q1 q2 q3 q4 q)
def tFor (wi : TI) (g : TG) (tb : TS) : TS := fun D σ H => wi σ H fun J H1 => ∃ W : Nat → Nat → St → Hp → Prop, (∃ m, W 0 m σ H1) ∧ ∀ i m σ H, W i m σ H →
  (J.stop i H ∧ D.nx σ H) ∨ (J.go i H ∧ ∃ N : St → Hp → Prop, (∀ σ' H', N σ' H' → ∃ m', m' < m ∧ W (i + 1) m' σ' H') ∧ ∀ x H', J.yld i H x H' → g x σ H' fun σ2 H2 => tb { D with nx := N, ct := N, bk := D.nx } σ2 H2)
def pinsAt (fp : List Addr) (h : Heap) : List (Addr × Obj) := fp.filterMap fun b => (h.get? b).map fun o => (b, o)
theorem mem_pinsAt {fp : List Addr} {h : Heap} {b : Addr} {o : Obj} (hb : b ∈ fp) (e : h.get? b = some o) : (b, o) ∈ pinsAt fp h := List.mem_filterMap.mpr ⟨b, hb, by rw [e]; rfl⟩
theorem of_pinsAt {fp : List Addr} {h : Heap} {p : Addr × Obj} (hp : p ∈ pinsAt fp h) : p.1 ∈ fp ∧ h.get? p.1 = some p.2 := by
  obtain ⟨b, hb, e⟩ := List.mem_filterMap.mp hp
  cases q : h.get? b with
  | none => rw [q] at e; cases e
  | some o =>
    rw [q] at e
    have e' : (b, o) = p := Option.some.inj e
    subst e'
    exact ⟨hb, q⟩
theorem Inv.pinned {pins : List (Addr × Obj)} {σ : St} {H : Hp} {s : Shared} {fp : List Addr} (I : Inv X pins σ H s) (hf : ∀ b ∈ fp, FpOk X pins H b) (ho : ∀ b ∈ fp, ∃ o, s.heap.get? b = some o ∧ ∀ v, o.data ≠ .cell v) : Inv X (pins ++ pinsAt fp s.heap) σ H s :=
  I.pins_of fun p hp => (List.mem_append.mp hp).elim (fun z => I.pin p (List.mem_append_right _ z)) fun z => by
    obtain ⟨hb, e⟩ := of_pinsAt z
    obtain ⟨f0, f1, f2, _⟩ := hf p.1 hb
    obtain ⟨o, e', d⟩ := ho p.1 hb
    rw [e] at e'; cases e'
    exact ⟨e, f0, f1, f2, d⟩
theorem Inv.unpinned {pins pl : List (Addr × Obj)} {σ : St} {H : Hp} {s : Shared} (I : Inv X (pins ++ pl) σ H s) : Inv X pins σ H s := I.pins_of fun p hp => I.pin p (List.mem_append_right _ (List.mem_append_left _ hp))
theorem ps_for {iter : Expr} {body : List Stmt} {wi : TI} {g : TG} {tb : TS} {pos : Pos} (hp : PassesOwn (model X.prog X.w) X.A X.env X.xe) (hc : X.calm = true) (hi : PI X tg iter wi) (hg : PG X tg g) (hb : PSs X body tb)
    (hs : ∀ x, foldedSetIterable iter X.env x = pure x := by intro _; rfl) : PS X (.For tg iter body [] pos) (tFor wi g tb) := by
  intro pins s σ H D I h
  refine wpAny_For (thn (hi pins s σ H _ I h) fun v s1 h1 => thn h1 fun itv s2 h2 => ?_) hs
  obtain ⟨it, fp, tn, J, H2, e, I2, T, st2, f2, W, ⟨m0, w0⟩, turn⟩ := h2
  subst e
  have stat : ∀ {H' : Hp}, (∀ b ∈ fp, H' b = none) → ∀ b ∈ fp, FpOk X pins H' b := fun hn b hb => ⟨hn b hb, (f2 b hb).2⟩
  refine codeAny_forLoop_any (fun n s' => ∃ i σ' H', Inv X pins σ' H' s' ∧ tn i s'.heap ∧ (∀ b ∈ fp, H' b = none) ∧ W i n σ' H') ?_ m0 ⟨0, σ, H2, I2, st2, fun b hb => (f2 b hb).1, w0⟩
  rintro n s3 ⟨i, σ3, H3, I3, st3, fr3, w3⟩
  rcases turn i n σ3 H3 w3 with ⟨stop, qn⟩ | ⟨go, N, hN, step⟩
  · refine wpAny_passesOwn hp (thn (T.done X rfl rfl rfl hc i pins s3 σ3 H3 X.xe I3 (stat fr3) st3 stop) fun r s4 ⟨hr, I4⟩ => ?_)
    subst hr
    exact wpAny_execs_nil ⟨σ3, H3, I4, qn⟩
  · refine wpAny_passesOwn hp (thn (T.item X rfl rfl rfl hc i pins s3 σ3 H3 X.xe I3 (stat fr3) st3 go) fun r s4 ⟨u, hr, h4⟩ => ?_)
    subst hr
    refine wpAny_passesOwn hp (thn h4 fun _ s5 ⟨x, H5, I5, r5, y5, st5, fr5⟩ => ?_)
    have I5' := I5.pinned (stat fr5) (T.obj _ _ st5)
    refine wpAny_passesOwn hp (thn (hg _ s5 σ3 H5 x u _ I5' r5 (step x H5 y5)) fun _ s6 ⟨σ6, H6, I6, q6⟩ => ?_)
    refine wpAny_passesOwn hp (thn (hb _ s6 σ6 H6 _ I6 q6) fun f s7 q7 => ?_)
    have again : ∀ {σ7 : St} {H7 : Hp}, Inv X (pins ++ pinsAt fp s5.heap) σ7 H7 s7 → N σ7 H7 → ∃ m, m < n ∧ ∃ i σ' H', Inv X pins σ' H' s7 ∧ tn i s7.heap ∧ (∀ b ∈ fp, H' b = none) ∧ W i m σ' H' := fun {σ7 H7} I7 n7 => by
      obtain ⟨m', hm, w7⟩ := hN σ7 H7 n7
      refine ⟨m', hm, i + 1, σ7, H7, I7.unpinned, T.keep _ _ _ st5 fun b hb o e => (I7.pin (b, o) (List.mem_append_right _ (List.mem_append_right _ (mem_pinsAt hb e)))).1, fun b hb => ?_, w7⟩
      obtain ⟨o, e, d⟩ := T.obj _ _ st5 b hb
      exact (I7.pin (b, o) (List.mem_append_right _ (List.mem_append_right _ (mem_pinsAt hb e)))).2.1
    cases f with
    | next => obtain ⟨σ7, H7, I7, n7⟩ := q7; exact again I7 n7
    | cont => obtain ⟨σ7, H7, I7, n7⟩ := q7; exact again I7 n7
    | brk => obtain ⟨σ7, H7, I7, q7⟩ := q7; exact ⟨σ7, H7, I7.unpinned, q7⟩
    | ret v => obtain ⟨x7, σ7, H7, I7, r7, q7⟩ := q7; exact ⟨x7, σ7, H7, I7.unpinned, r7, q7⟩
end
theorem for_list {K : PySem.W.Frag} {a : Addr} {xs : List V} {g : TG} {tb : TS} {D : Ends} {σ : St} {H : Hp} (Pv : Nat → St → Hp → Prop) (h0 : Pv 0 σ H) (hl : ∀ i σ H, i ≤ xs.length → Pv i σ H → SqL K H a xs)
    (hs : ∀ i x σ H, xs[i]? = some x → Pv i σ H → g x σ H fun σ2 H2 => tb { D with nx := Pv (i + 1), ct := Pv (i + 1), bk := D.nx } σ2 H2) (hd : ∀ σ H, Pv xs.length σ H → D.nx σ H) :
    ∃ W : Nat → Nat → St → Hp → Prop, (∃ m, W 0 m σ H) ∧ ∀ i m σ H, W i m σ H →
      ((Itl K a).stop i H ∧ D.nx σ H) ∨ ((Itl K a).go i H ∧ ∃ N : St → Hp → Prop, (∀ σ' H', N σ' H' → ∃ m', m' < m ∧ W (i + 1) m' σ' H') ∧ ∀ x H', (Itl K a).yld i H x H' → g x σ H' fun σ2 H2 => tb { D with nx := N, ct := N, bk := D.nx } σ2 H2) := by
  refine ⟨fun i m σ H => m = xs.length - i ∧ i ≤ xs.length ∧ Pv i σ H, ⟨xs.length, by simp, Nat.zero_le _, h0⟩, ?_⟩
  rintro i m σ H ⟨rfl, hi, p⟩
  have q := hl i σ H hi p
  by_cases hlt : i < xs.length
  · refine .inr ⟨⟨xs, xs[i], q, by simp [hlt]⟩, Pv (i + 1), fun σ' H' p' => ⟨xs.length - (i + 1), by omega, rfl, hlt, p'⟩, fun x H' y => ?_⟩
    obtain ⟨e, y⟩ := y
    subst e
    exact hs i x σ _ (y xs q) p
  · have e : i = xs.length := by omega
    subst e
    exact .inl ⟨⟨xs, q, Nat.le_refl _⟩, hd σ H p⟩
theorem for_tup {K : PySem.W.Frag} {a : Addr} {xs : List V} {g : TG} {tb : TS} {D : Ends} {σ : St} {H : Hp} (Pv : Nat → St → Hp → Prop) (h0 : Pv 0 σ H) (hl : ∀ i σ H, i ≤ xs.length → Pv i σ H → SqT K H a xs)
    (hs : ∀ i x σ H, xs[i]? = some x → Pv i σ H → g x σ H fun σ2 H2 => tb { D with nx := Pv (i + 1), ct := Pv (i + 1), bk := D.nx } σ2 H2) (hd : ∀ σ H, Pv xs.length σ H → D.nx σ H) :
    ∃ W : Nat → Nat → St → Hp → Prop, (∃ m, W 0 m σ H) ∧ ∀ i m σ H, W i m σ H →
      ((Itt K a).stop i H ∧ D.nx σ H) ∨ ((Itt K a).go i H ∧ ∃ N : St → Hp → Prop, (∀ σ' H', N σ' H' → ∃ m', m' < m ∧ W (i + 1) m' σ' H') ∧ ∀ x H', (Itt K a).yld i H x H' → g x σ H' fun σ2 H2 => tb { D with nx := N, ct := N, bk := D.nx } σ2 H2) := by
  refine ⟨fun i m σ H => m = xs.length - i ∧ i ≤ xs.length ∧ Pv i σ H, ⟨xs.length, by simp, Nat.zero_le _, h0⟩, ?_⟩
  rintro i m σ H ⟨rfl, hi, p⟩
  have q := hl i σ H hi p
  by_cases hlt : i < xs.length
  · refine .inr ⟨⟨xs, xs[i], q, by simp [hlt]⟩, Pv (i + 1), fun σ' H' p' => ⟨xs.length - (i + 1), by omega, rfl, hlt, p'⟩, fun x H' y => ?_⟩
    obtain ⟨e, y⟩ := y
    subst e
    exact hs i x σ _ (y xs q) p
  · have e : i = xs.length := by omega
    subst e
    exact .inl ⟨⟨xs, q, Nat.le_refl _⟩, hd σ H p⟩
theorem for_range {lo : Int} {n : Nat} {g : TG} {tb : TS} {D : Ends} {σ : St} {H : Hp} (Pv : Nat → St → Hp → Prop) (h0 : Pv 0 σ H)
    (hs : ∀ i σ H, i < n → Pv i σ H → g (.int (lo + i)) σ H fun σ2 H2 => tb { D with nx := Pv (i + 1), ct := Pv (i + 1), bk := D.nx } σ2 H2) (hd : ∀ σ H, Pv n σ H → D.nx σ H) :
    ∃ W : Nat → Nat → St → Hp → Prop, (∃ m, W 0 m σ H) ∧ ∀ i m σ H, W i m σ H →
      ((Itr lo n).stop i H ∧ D.nx σ H) ∨ ((Itr lo n).go i H ∧ ∃ N : St → Hp → Prop, (∀ σ' H', N σ' H' → ∃ m', m' < m ∧ W (i + 1) m' σ' H') ∧ ∀ x H', (Itr lo n).yld i H x H' → g x σ H' fun σ2 H2 => tb { D with nx := N, ct := N, bk := D.nx } σ2 H2) := by
  refine ⟨fun i m σ H => m = n - i ∧ i ≤ n ∧ Pv i σ H, ⟨n, by simp, Nat.zero_le _, h0⟩, ?_⟩
  rintro i m σ H ⟨rfl, hi, p⟩
  by_cases hlt : i < n
  · refine .inr ⟨hlt, Pv (i + 1), fun σ' H' p' => ⟨n - (i + 1), by omega, rfl, hlt, p'⟩, fun x H' y => ?_⟩
    obtain ⟨e, y⟩ := y
    subst e y
    exact hs i σ _ hlt p
  · have e : i = n := by omega
    subst e
    exact .inl ⟨Nat.le_refl _, hd σ H p⟩
end L2
namespace L2
open PySem PySem.Spec PyProof.Rows
abbrev R2 := V → V → Hp → VK → Prop
def OpR (X : Cx) (f : Value → Value → Sem Value) (r : R2) : Prop :=
  ∀ (pins : List (Addr × Obj)) (s : Shared) (σ : St) (H : Hp) (x y : V) (v u : Value) (Q : VK), Inv X pins σ H s → RelV x v → RelV y u → r x y H Q →
    wpAny (model X.prog X.w) X.A (f v u) (EP X pins σ Q) X.xe s
def UnR (X : Cx) (f : Value → Sem Value) (r : V → Hp → VK → Prop) : Prop :=
  ∀ (pins : List (Addr × Obj)) (s : Shared) (σ : St) (H : Hp) (x : V) (v : Value) (Q : VK), Inv X pins σ H s → RelV x v → r x H Q →
    wpAny (model X.prog X.w) X.A (f v) (EP X pins σ Q) X.xe s
def CallR (X : Cx) (f : Value) (r : List V → Hp → VK → Prop) : Prop :=
  ∀ (pins : List (Addr × Obj)) (s : Shared) (σ : St) (H : Hp) (xs : List V) (us : List Value) (Q : VK), Inv X pins σ H s → Vals xs us → r xs H Q →
    wpAny (model X.prog X.w) X.A (call f us) (EP X pins σ Q) X.xe s
def tOp (r : R2) (ta tb : TE) : TE := fun σ H Q => ta σ H fun x H1 => tb σ H1 fun y H2 => r x y H2 Q
def tUn (r : V → Hp → VK → Prop) (ta : TE) : TE := fun σ H Q => ta σ H fun x H1 => r x H1 Q
def rI (C : Int → Int → Prop) (g : Int → Int → V) : R2 := fun x y H Q => ∃ i j, x = .int i ∧ y = .int j ∧ C i j ∧ Q (g i j) H
def rI0 (g : Int → Int → V) : R2 := fun x y H Q => ∃ i j, x = .int i ∧ y = .int j ∧ Q (g i j) H
def rU (g : Int → V) : V → Hp → VK → Prop := fun x H Q => ∃ i, x = .int i ∧ Q (g i) H
section
variable {X : Cx} {a b c : Expr} {ta tb tc : TE} {pos : Pos}
theorem binT (ha : PE X a ta) (hb : PE X b tb) {pins : List (Addr × Obj)} {s : Shared} {σ : St} {H : Hp} {R : V → V → Hp → Prop} (I : Inv X pins σ H s)
    (h : ta σ H fun x H1 => tb σ H1 fun y H2 => R x y H2) {Q : Value → Shared → Prop} {f : Value → Value → Sem Value}
    (hf : ∀ v u s2 x y H2, Inv X pins σ H2 s2 → RelV x v → RelV y u → R x y H2 → wpAny (model X.prog X.w) X.A (f v u) Q X.xe s2) :
    wpAny (model X.prog X.w) X.A (eval a X.env) (fun v s₁ => wpAny (model X.prog X.w) X.A (eval b X.env) (fun u s₂ => wpAny (model X.prog X.w) X.A (f v u) Q X.xe s₂) X.xe s₁) X.xe s := by
  refine thn (ha pins s σ H _ I h) fun v s1 ⟨x, H1, I1, r1, q1⟩ => ?_
  refine thn (hb pins s1 σ H1 _ I1 q1) fun u s2 ⟨y, H2, I2, r2, q2⟩ => ?_
  exact hf v u s2 x y H2 I2 r1 r2 q2
theorem pe_op {op : Operator} {r : R2} (ho : OpR X (binaryOp op) r) (ha : PE X a ta) (hb : PE X b tb) : PE X (.BinOp a op b pos) (tOp r ta tb) := by
  intro pins s σ H Q I h
  exact wpAny_BinOp (binT ha hb I h fun v u s2 x y H2 I2 rx ry q => ho pins s2 σ H2 x y v u Q I2 rx ry q)
theorem pe_un {op : UnaryOp} {r : V → Hp → VK → Prop} (ho : UnR X (unaryOp op) r) (ha : PE X a ta) : PE X (.UnaryOp op a pos) (tUn r ta) := by
  intro pins s σ H Q I h
  exact UnaryOp_ (thn (ha pins s σ H _ I h) fun v s1 ⟨x, H1, I1, r1, q1⟩ => ho pins s1 σ H1 x v Q I1 r1 q1)
theorem opI {f : Value → Value → Sem Value} {C : Int → Int → Prop} {g : Int → Int → Int}
    (rule : ∀ (i j : Int) (t u : Tok) (s : Shared) (Q : Value → Shared → Prop) (E : Value → Shared → Prop), C i j → Q (.int (g i j) s.toks) { s with toks := s.toks + 1 } → wpAny (model X.prog X.w) X.A (f (.int i t) (.int j u)) Q E s) :
    OpR X f (rI C fun i j => .int (g i j)) := by
  intro pins s σ H x y v u Q I rx ry h
  obtain ⟨i, j, rfl, rfl, hc, q⟩ := h
  obtain ⟨t, rfl⟩ := rx
  obtain ⟨t', rfl⟩ := ry
  exact rule i j t t' s _ _ hc ⟨.int (g i j), H, I.tok _, ⟨_, rfl⟩, q⟩
theorem opI0 {f : Value → Value → Sem Value} {g : Int → Int → Int}
    (rule : ∀ (i j : Int) (t u : Tok) (s : Shared) (Q : Value → Shared → Prop) (E : Value → Shared → Prop), Q (.int (g i j) s.toks) { s with toks := s.toks + 1 } → wpAny (model X.prog X.w) X.A (f (.int i t) (.int j u)) Q E s) :
    OpR X f (rI0 fun i j => .int (g i j)) := by
  intro pins s σ H x y v u Q I rx ry h
  obtain ⟨i, j, rfl, rfl, q⟩ := h
  obtain ⟨t, rfl⟩ := rx
  obtain ⟨t', rfl⟩ := ry
  exact rule i j t t' s _ _ ⟨.int (g i j), H, I.tok _, ⟨_, rfl⟩, q⟩
theorem opB0 {f : Value → Value → Sem Value} {g : Int → Int → Bool}
    (rule : ∀ (i j : Int) (t u : Tok) (s : Shared) (Q : Value → Shared → Prop) (E : Value → Shared → Prop), Q (.bool (g i j)) s → wpAny (model X.prog X.w) X.A (f (.int i t) (.int j u)) Q E s) :
    OpR X f (rI0 fun i j => .bl (g i j)) := by
  intro pins s σ H x y v u Q I rx ry h
  obtain ⟨i, j, rfl, rfl, q⟩ := h
  obtain ⟨t, rfl⟩ := rx
  obtain ⟨t', rfl⟩ := ry
  exact rule i j t t' s _ _ ⟨.bl (g i j), H, I, rfl, q⟩
def CDiv (i j : Int) : Prop := 0 < j ∧ j < 1073741824
def CDivN (i j : Int) : Prop := j ≠ 0 ∧ j.natAbs < 1073741824
def CPow (i j : Int) : Prop := 0 ≤ j ∧ j ≤ 1000000 ∧ i.natAbs < 2 ^ 64
def CMul (i j : Int) : Prop := (-(2 ^ 64) < i ∧ i < 2 ^ 64) ∨ (-(2 ^ 64) < j ∧ j < 2 ^ 64)
theorem CMul.ok {i j : Int} (h : CMul i j) : IntMulOk i j := by
  rcases h with ⟨h1, h2⟩ | ⟨h1, h2⟩
  · exact .of_left (intBits_le_64 h1 h2)
  · exact .of_right (intBits_le_64 h1 h2)
theorem op_add : OpR X (binaryOp .Add) (rI0 fun i j => .int (i + j)) := opI0 fun _ _ _ _ _ _ _ q => add_int q
theorem op_sub : OpR X (binaryOp .Sub) (rI0 fun i j => .int (i - j)) := opI0 fun _ _ _ _ _ _ _ q => sub_int q
theorem op_mul : OpR X (binaryOp .Mult) (rI CMul fun i j => .int (i * j)) := opI fun _ _ _ _ _ _ _ hc q => mul_int q hc.ok
theorem op_fdiv : OpR X (binaryOp .FloorDiv) (rI CDiv fun i j => .int (i / j)) := opI fun i j _ _ _ _ _ hc q => by
  have h1 : (0 : Int) < j := hc.1
  have h2 : j < 1073741824 := hc.2
  exact floordiv_int (by omega) (by rw [Int.fdiv_eq_ediv_of_nonneg i (by omega)]; exact q) (.inl (PyProof.noPylong_small (by omega)))
theorem op_mod : OpR X (binaryOp .Mod) (rI (fun _ j => 0 < j) fun i j => .int (i % j)) := opI fun i j _ _ _ _ _ hc q => by
  have h1 : (0 : Int) < j := hc
  exact mod_int' (by omega) (by rw [Int.fmod_eq_emod_of_nonneg i (by omega)]; exact q)
theorem op_pow : OpR X (binaryOp .Pow) (rI CPow fun i j => .int (i ^ j.toNat)) := opI fun _ _ _ _ _ _ _ hc q => pow_int_small hc.1 hc.2.1 hc.2.2 q
theorem unI {f : Value → Sem Value} {g : Int → Int}
    (rule : ∀ (i : Int) (t : Tok) (s : Shared) (Q : Value → Shared → Prop) (E : Value → Shared → Prop), Q (.int (g i) s.toks) { s with toks := s.toks + 1 } → wpAny (model X.prog X.w) X.A (f (.int i t)) Q E s) :
    UnR X f (rU fun i => .int (g i)) := by
  intro pins s σ H x v Q I rx h
  obtain ⟨i, rfl, q⟩ := h
  obtain ⟨t, rfl⟩ := rx
  exact rule i t s _ _ ⟨.int (g i), H, I.tok _, ⟨_, rfl⟩, q⟩
theorem un_neg : UnR X (unaryOp .USub) (rU fun i => .int (-i)) := unI fun _ _ _ _ _ q => neg_int q
end
def scal : V → V → Bool
  | .non, .non => true | .non, .int _ => true | .int _, .non => true | .non, .bl _ => true | .bl _, .non => true | .non, .str _ => true | .str _, .non => true
  | .int _, .int _ => true | .bl _, .bl _ => true | .str _, .str _ => true | .byt _, .byt _ => true
  | .int _, .str _ => true | .str _, .int _ => true | .bl _, .str _ => true | .str _, .bl _ => true
  | _, _ => false
def rEq : R2 := fun x y H Q => scal x y = true ∧ Q (.bl (decide (x = y))) H
def rNe : R2 := fun x y H Q => scal x y = true ∧ Q (.bl (!decide (x = y))) H
theorem dec_int {i j : Int} : decide (V.int i = V.int j) = (i == j) := by
  rw [Bool.eq_iff_iff]
  simp
theorem dec_bl {i j : Bool} : decide (V.bl i = V.bl j) = (i == j) := by
  rw [Bool.eq_iff_iff]
  simp
theorem dec_str {i j : Str} : decide (V.str i = V.str j) = (i == j) := by
  rw [Bool.eq_iff_iff]
  simp
theorem dec_byt {i j : Array UInt8} : decide (V.byt i = V.byt j) = (i.toList == j.toList) := by
  rw [Bool.eq_iff_iff]
  cases i
  cases j
  simp
section
variable {X : Cx} {a b c : Expr} {ta tb tc : TE} {pos : Pos}
theorem fin_bl {pins : List (Addr × Obj)} {σ : St} {H : Hp} {s : Shared} {Q : VK} {k k' : Bool} (I : Inv X pins σ H s) (q : Q (.bl k) H) (e : k = k') : EP X pins σ Q (.bool k') s := by
  subst e
  exact ⟨.bl k, H, I, rfl, q⟩
theorem op_eq : OpR X (compareOp .Eq) rEq := by
  intro pins s σ H x y v u Q I rx ry h
  obtain ⟨hs, q⟩ := h
  cases x with
  | non =>
    cases rx
    cases y with
    | non => cases ry; exact PySem.EqNone.eq_none_none (fin_bl I q (by simp))
    | bl j => cases ry; exact PySem.EqNone.eq_none_bool (fin_bl I q (by simp))
    | int j => obtain ⟨t', rfl⟩ := ry; exact PySem.EqNone.eq_none_int (fin_bl I q (by simp))
    | str j => obtain ⟨t', rfl⟩ := ry; exact PySem.EqNone.eq_none_str (fin_bl I q (by simp))
    | _ => exact absurd (show false = true from hs) Bool.false_ne_true
  | bl i =>
    cases rx
    cases y with
    | non => cases ry; exact PySem.EqNone.eq_bool_none (fin_bl I q (by simp))
    | bl j => cases ry; exact eq_bool (fin_bl I q dec_bl)
    | str j => obtain ⟨t', rfl⟩ := ry; exact PySem.EqMixed.eq_bool_str (fin_bl I q (by simp))
    | _ => exact absurd (show false = true from hs) Bool.false_ne_true
  | int i =>
    obtain ⟨t, rfl⟩ := rx
    cases y with
    | non => cases ry; exact PySem.EqNone.eq_int_none (fin_bl I q (by simp))
    | int j => obtain ⟨t', rfl⟩ := ry; exact eq_int (fin_bl I q dec_int)
    | str j => obtain ⟨t', rfl⟩ := ry; exact PySem.EqMixed.eq_int_str (fin_bl I q (by simp))
    | _ => exact absurd (show false = true from hs) Bool.false_ne_true
  | str i =>
    obtain ⟨t, rfl⟩ := rx
    cases y with
    | non => cases ry; exact PySem.EqNone.eq_str_none (fin_bl I q (by simp))
    | bl j => cases ry; exact PySem.EqMixed.eq_str_bool (fin_bl I q (by simp))
    | int j => obtain ⟨t', rfl⟩ := ry; exact PySem.EqMixed.eq_str_int (fin_bl I q (by simp))
    | str j => obtain ⟨t', rfl⟩ := ry; exact eq_str (fin_bl I q dec_str)
    | _ => exact absurd (show false = true from hs) Bool.false_ne_true
  | byt i =>
    obtain ⟨t, rfl⟩ := rx
    cases y with
    | byt j => obtain ⟨t', rfl⟩ := ry; exact PySem.W.eq_bytes (fin_bl I q dec_byt)
    | _ => exact absurd (show false = true from hs) Bool.false_ne_true
  | _ => cases y <;> exact absurd (show false = true from hs) Bool.false_ne_true
theorem op_ne : OpR X (compareOp .NotEq) rNe := by
  intro pins s σ H x y v u Q I rx ry h
  obtain ⟨hs, q⟩ := h
  cases x with
  | non =>
    cases rx
    cases y with
    | non => cases ry; exact PySem.EqNone.ne_none_none (fin_bl I q (by simp))
    | bl j => cases ry; exact PySem.EqNone.ne_none_bool (fin_bl I q (by simp))
    | int j => obtain ⟨t', rfl⟩ := ry; exact PySem.EqNone.ne_none_int (fin_bl I q (by simp))
    | str j => obtain ⟨t', rfl⟩ := ry; exact PySem.EqNone.ne_none_str (fin_bl I q (by simp))
    | _ => exact absurd (show false = true from hs) Bool.false_ne_true
  | bl i =>
    cases rx
    cases y with
    | non => cases ry; exact PySem.EqNone.ne_bool_none (fin_bl I q (by simp))
    | bl j => cases ry; exact ne_bool (fin_bl I q (congrArg not dec_bl))
    | str j => obtain ⟨t', rfl⟩ := ry; exact PySem.EqMixed.ne_bool_str (fin_bl I q (by simp))
    | _ => exact absurd (show false = true from hs) Bool.false_ne_true
  | int i =>
    obtain ⟨t, rfl⟩ := rx
    cases y with
    | non => cases ry; exact PySem.EqNone.ne_int_none (fin_bl I q (by simp))
    | int j => obtain ⟨t', rfl⟩ := ry; exact ne_int (fin_bl I q (congrArg not dec_int))
    | str j => obtain ⟨t', rfl⟩ := ry; exact PySem.EqMixed.ne_int_str (fin_bl I q (by simp))
    | _ => exact absurd (show false = true from hs) Bool.false_ne_true
  | str i =>
    obtain ⟨t, rfl⟩ := rx
    cases y with
    | non => cases ry; exact PySem.EqNone.ne_str_none (fin_bl I q (by simp))
    | bl j => cases ry; exact PySem.EqMixed.ne_str_bool (fin_bl I q (by simp))
    | int j => obtain ⟨t', rfl⟩ := ry; exact PySem.EqMixed.ne_str_int (fin_bl I q (by simp))
    | str j => obtain ⟨t', rfl⟩ := ry; exact ne_str (fin_bl I q (congrArg not dec_str))
    | _ => exact absurd (show false = true from hs) Bool.false_ne_true
  | byt i =>
    obtain ⟨t, rfl⟩ := rx
    cases y with
    | byt j => obtain ⟨t', rfl⟩ := ry; exact PySem.W.ne_bytes (fin_bl I q (congrArg not dec_byt))
    | _ => exact absurd (show false = true from hs) Bool.false_ne_true
  | _ => cases y <;> exact absurd (show false = true from hs) Bool.false_ne_true
theorem op_lt : OpR X (compareOp .Lt) (rI0 fun i j => .bl (decide (i < j))) := opB0 fun _ _ _ _ _ _ _ q => lt_int q
theorem op_le : OpR X (compareOp .LtE) (rI0 fun i j => .bl (decide (i ≤ j))) := opB0 fun _ _ _ _ _ _ _ q => le_int q
theorem op_gt : OpR X (compareOp .Gt) (rI0 fun i j => .bl (decide (j < i))) := opB0 fun _ _ _ _ _ _ _ q => gt_int q
theorem op_in_str : OpR X (compareOp .In) (fun x y H Q => ∃ i j, x = .str i ∧ y = .str j ∧ Q (.bl (!(Builtin.Str.occurrences j i 0 j.length 1).isEmpty)) H) := by
  intro pins s σ H x y v u Q I rx ry h
  obtain ⟨i, j, rfl, rfl, q⟩ := h
  obtain ⟨t, rfl⟩ := rx
  obtain ⟨t', rfl⟩ := ry
  exact in_str (fin_bl I q rfl)
theorem op_isN : OpR X (compareOp .Is) (fun x y H Q => y = .non ∧ Q (.bl (decide (x = .non))) H) := by
  intro pins s σ H x y v u Q I rx ry h
  obtain ⟨rfl, q⟩ := h
  cases ry
  refine is_none_gen (fin_bl I q ?_)
  cases x <;> first
    | (cases rx; rfl)
    | (obtain ⟨t, rfl⟩ := rx; rfl)
theorem nomark (b : Expr) {op : CmpOp} (h : op ≠ .In := by decide) (h2 : op ≠ .NotIn := by decide) : behindInMarks op b = false := by
  have e1 : (op == CmpOp.In) = false := by cases op <;> first | rfl | exact absurd rfl h
  have e2 : (op == CmpOp.NotIn) = false := by cases op <;> first | rfl | exact absurd rfl h2
  cases b <;> simp [behindInMarks, e1, e2]
theorem pe_cmpR {op : CmpOp} {r : R2} (ho : OpR X (compareOp op) r) (ha : PE X a ta) (hb : PE X b tb) (hm : behindInMarks op b = false) : PE X (.Compare a [op] [b] pos) (tOp r ta tb) := by
  intro pins s σ H Q I h
  exact wpAny_Compare1 (binT ha hb I h fun v u s2 x y H2 I2 rx ry q => ho pins s2 σ H2 x y v u Q I2 rx ry q) hm
def tTest (t : TE) : TT := fun σ H Q => t σ H fun x H' => ∃ k, x = .bl k ∧ Q k H'
theorem pt_cmpR {op : CmpOp} {r : R2} (ho : OpR X (compareOp op) r) (ha : PE X a ta) (hb : PE X b tb) (hm : behindInMarks op b = false) : PT X (.Compare a [op] [b] pos) (tTest (tOp r ta tb)) := by
  intro pins s σ H Q I h
  refine wpAny_isTrue_Compare1 (thn (ha pins s σ H _ I h) fun v s1 ⟨x, H1, I1, r1, q1⟩ => thn (hb pins s1 σ H1 _ I1 q1) fun u s2 ⟨y, H2, I2, r2, q2⟩ =>
    thn (ho pins s2 σ H2 x y v u _ I2 r1 r2 q2) fun c s3 ⟨z, H3, I3, r3, k, e, q3⟩ => ?_) hm
  subst e
  cases r3
  exact wpAny_truthy_bool ⟨H3, I3, q3⟩
def tChain (r r' : R2) (ta tb tc : TE) : TE := fun σ H Q => ta σ H fun x H1 => tb σ H1 fun y H2 => r x y H2 fun z H3 => ∃ k, z = .bl k ∧
  (if k = true then tc σ H3 fun w' H4 => r' y w' H4 Q else Q (.bl false) H3)
theorem pe_chain {op op' : CmpOp} {r r' : R2} (ho : OpR X (compareOp op) r) (ho' : OpR X (compareOp op') r') (ha : PE X a ta) (hb : PE X b tb) (hc : PE X c tc)
    (hm : lastMarks [op, op'] [b, c] = false := by with_unfolding_all rfl) : PE X (.Compare a [op, op'] [b, c] pos) (tChain r r' ta tb tc) := by
  intro pins s σ H Q I h
  refine Compare_chain (thn (ha pins s σ H _ I h) fun v s1 ⟨x, H1, I1, r1, q1⟩ => chain_link (thn (hb pins s1 σ H1 _ I1 q1) fun u s2 ⟨y, H2, I2, r2, q2⟩ =>
    thn (ho pins s2 σ H2 x y v u _ I2 r1 r2 q2) fun d s3 ⟨z, H3, I3, r3, k, e, q3⟩ => ?_)) hm
  subst e
  cases r3
  refine wpAny_truthy_bool ?_
  cases k with
  | false => exact ite_ff ⟨.bl false, H3, I3, rfl, q3⟩
  | true => exact ite_tt (chain_last (thn (hc pins s3 σ H3 _ I3 q3) fun w' s4 ⟨z', H4, I4, r4, q4⟩ => ho' pins s4 σ H4 y z' u w' Q I4 r2 r4 q4))
theorem pt_chain {op op' : CmpOp} {r r' : R2} (ho : OpR X (compareOp op) r) (ho' : OpR X (compareOp op') r') (ha : PE X a ta) (hb : PE X b tb) (hc : PE X c tc)
    (hm : lastMarks [op, op'] [b, c] = false := by with_unfolding_all rfl) : PT X (.Compare a [op, op'] [b, c] pos) (tTest (tChain r r' ta tb tc)) := by
  intro pins s σ H Q I h
  refine isTrue_chain (thn (ha pins s σ H _ I h) fun v s1 ⟨x, H1, I1, r1, q1⟩ => test_link (thn (hb pins s1 σ H1 _ I1 q1) fun u s2 ⟨y, H2, I2, r2, q2⟩ =>
    thn (ho pins s2 σ H2 x y v u _ I2 r1 r2 q2) fun d s3 ⟨z, H3, I3, r3, k, e, q3⟩ => ?_)) hm
  subst e
  cases r3
  refine wpAny_truthy_bool ?_
  cases k with
  | false =>
    obtain ⟨k', e', q'⟩ := q3
    cases e'
    exact ite_ff ⟨H3, I3, q'⟩
  | true =>
    refine ite_tt (test_last (thn (hc pins s3 σ H3 _ I3 q3) fun w' s4 ⟨z', H4, I4, r4, q4⟩ => thn (ho' pins s4 σ H4 y z' u w' _ I4 r2 r4 q4) fun d' s5 ⟨z2, H5, I5, r5, k2, e2, q5⟩ => ?_))
    subst e2
    cases r5
    exact wpAny_truthy_bool ⟨H5, I5, q5⟩
theorem line63 : (sizeLine : Nat) < 2 ^ 63 := by rw [sizeLine_eq]; decide
theorem op_add_str : OpR X (binaryOp .Add) (fun x y H Q => ∃ i j, x = .str i ∧ y = .str j ∧ i.length + j.length ≤ sizeLine ∧ Q (.str (i ++ j)) H) := by
  intro pins s σ H x y v u Q I rx ry h
  obtain ⟨i, j, rfl, rfl, hz, q⟩ := h
  obtain ⟨t, rfl⟩ := rx
  obtain ⟨t', rfl⟩ := ry
  exact add_str (fun t' tk => ⟨.str (i ++ j), H, I.tok _, ⟨_, rfl⟩, q⟩) hz
def PlainIxT (b : Expr) : Prop := ∀ o i, subscripted b false o i = operate [o, i] (getItem o i)
theorem pe_item_str (ha : PE X a ta) (hb : PE X b tb) (hs : PlainIxT b) :
    PE X (.Subscript a b pos) (tOp (fun x y H Q => ∃ z i c, x = .str z ∧ y = .int i ∧ 0 ≤ i ∧ i < 2 ^ 63 ∧ i < z.length ∧ z.cps[i.toNat]? = some c ∧ Q (.str ⟨#[c]⟩) H) ta tb) := by
  intro pins s σ H Q I h
  refine Subscript_ (binT ha hb I h fun v u s2 x y H2 I2 rx ry q => ?_)
  obtain ⟨z, i, c, rfl, rfl, h0, h63, h1, hc, q⟩ := q
  obtain ⟨t, rfl⟩ := rx
  obtain ⟨t', rfl⟩ := ry
  have e : seqIndex? i z.length = some i.toNat := PySem.StrLaws.seqIndex_nonneg h0 h1
  exact tail_any (typeIs_str s2 z t) slot_str_getitem.lookup (getItem_str (c := c) (by
    have e1 : decide (i < -(2 ^ 63 : Int)) = false := decide_eq_false (by omega)
    have e2 : decide (i ≥ 2 ^ 63) = false := decide_eq_false (by omega)
    rw [e1, e2] <;> rfl) (by rw [e]; exact hc) ⟨.str ⟨#[c]⟩, H2, I2.tok _, ⟨_, rfl⟩, q⟩) (hs _ _)
theorem vals1 {x : V} {us : List Value} (r : Vals [x] us) : ∃ u, us = [u] ∧ RelV x u := by
  cases r with
  | cons r1 r2 => cases r2; exact ⟨_, rfl, r1⟩
theorem vals2 {x y : V} {us : List Value} (r : Vals [x, y] us) : ∃ u w', us = [u, w'] ∧ RelV x u ∧ RelV y w' := by
  cases r with
  | cons r1 r2 =>
    cases r2 with
    | cons r3 r4 => cases r4; exact ⟨_, _, rfl, r1, r3⟩
theorem call_max2 (hc : X.calm = true) : CallR X (.builtin "max") (fun xs H Q => ∃ i j, xs = [.int i, .int j] ∧ Q (.int (if j > i then j else i)) H) := by
  intro pins s σ H xs us Q I r h
  obtain ⟨i, j, rfl, q⟩ := h
  obtain ⟨u, w', rfl, ⟨t, rfl⟩, ⟨t', rfl⟩⟩ := vals2 r
  refine max_two_ints (I.ok.hd hc) fun h' tk k => ⟨_, H, I.kept k, ?_, q⟩
  by_cases hj : j > i
  · rw [if_pos hj, if_pos hj]; exact ⟨_, rfl⟩
  · rw [if_neg hj, if_neg hj]; exact ⟨_, rfl⟩
end
end L2
namespace L2
open PySem PySem.Spec PyProof.Rows
structure ObjM (h : Heap) (x dx C : Addr) (mA : Str → Option Value) : Prop where
  obj : h.get? x = some (PySem.W.instObj C dx)
  ns : h.Ns1 dx mA
  ne : dx ≠ x
theorem lookIn_ns {h : Heap} {dx : Addr} {mA : Str → Option Value} (n : h.Ns1 dx mA) : ∃ od, h.get? dx = some od ∧ ∀ name, PySem.W.lookIn name od = some (mA name) := by
  obtain ⟨o, es, ep, ho, hd, hk, _, hm⟩ := n
  refine ⟨o, ho, fun name => ?_⟩
  have e := hm name
  unfold nsFind findBy at e
  rw [← Array.find?_toList] at e
  unfold PySem.W.lookIn
  rw [hd]
  dsimp only
  split
  · rename_i y q
    rw [q] at e
    exact congrArg some e
  · rename_i q
    rw [q] at e
    have a : es.toList.any (·.refKey) = false := by
      rw [List.any_eq_false]
      intro y hy
      obtain ⟨z, t, hkey⟩ := hk y (Array.mem_toList_iff.mp hy)
      simp [DictEntry.refKey, hkey]
    have a' : ¬ es.toList.any (·.refKey) = true := by rw [a]; exact Bool.false_ne_true
    rw [if_neg a']
    exact congrArg some e
theorem ObjM.look {h : Heap} {x dx C : Addr} {mA : Str → Option Value} (I : ObjM h x dx C mA) : ∃ od, PySem.W.InstAt h x (PySem.W.instObj C dx) C (some od) ∧ ∀ name, PySem.W.lookIn name od = some (mA name) :=
  let ⟨od, ho, hl⟩ := lookIn_ns I.ns
  ⟨od, ⟨I.obj, rfl, rfl, ho⟩, hl⟩
section
variable {prog : Program} {w : World} {A : Around} {E : Value → Shared → Prop} {s : Shared} {K : PySem.W.Frag} {x dx C f : Addr} {mA : Str → Option Value} {name : Str} {v : Value}
end
section
variable {P : Program} {w : World} {H H' : Hp} {h h' : Heap} {a C dx : Addr} {fs fs' : List (Str × V)}
theorem ins_get (hok : HOk P w H h) (e : H a = some (.ins C dx fs)) : ∃ mA, ObjM h a dx C mA ∧ (∀ f, RelO (fs.lookup f) (mA f)) ∧ PySem.Within mA (fs.map (·.1)) ∧ fs.length ≤ 1000 ∧ H dx = some (.own a) := by
  obtain ⟨d, z, ne, ob, mA, n, r, q⟩ := (show ObjOk P w H h a (.ins C dx fs) from hok a _ e)
  exact ⟨mA, ⟨ob, n, ne⟩, r, q, z, d⟩
end
structure Cls (K : PySem.W.Frag) (C : Addr) : Prop where
  pg : PySem.W.plainGet K C Str.empty = true
  hd : PySem.W.hasDictIn K C = true
  po : PySem.W.plainOver K C = true
  sa : PySem.W.findIn K (.ref C) "__setattr__" = some (some (.builtin "object.__setattr__"))
theorem Cls.get {K : PySem.W.Frag} {C : Addr} (c : Cls K C) (f : Str) : PySem.W.plainGet K C f = true := c.pg
structure Con (K : PySem.W.Frag) (C : Addr) (f : Str) (v : V) (u : Value) : Prop where
  at_ : PySem.W.findIn K (.ref C) f = some (some u)
  rel : RelV v u
  get : PySem.W.specialIn K u "__get__" = some none
  cp : PySem.W.copiedNames.contains f = false
structure Meth (K : PySem.W.Frag) (C : Addr) (m : Str) (f : Addr) : Prop where
  at_ : PySem.W.findIn K (.ref C) m = some (some (.ref f))
  fn : PySem.W.isFn K (.ref f) = true
  kp : PySem.W.keepIn K (.ref f) = true
section
variable {X : Cx} {pins : List (Addr × Obj)} {σ : St} {H : Hp} {s : Shared} {a C dx : Addr} {fs : List (Str × V)} {f : Str} {v : V} {A : Around} {E : Value → Shared → Prop}
theorem Inv.made (I : Inv X pins σ H s) : Inv X pins σ (upd (upd H s.heap.objs.size (.own (s.heap.objs.size + 1))) (s.heap.objs.size + 1) (.ins C s.heap.objs.size []))
    { s with heap := (s.heap.push PySem.W.emptyDict).push (PySem.W.instObj C s.heap.objs.size) } := by
  have e1 : (s.heap.push PySem.W.emptyDict).get? s.heap.objs.size = some PySem.W.emptyDict := Heap.get?_push_size s.heap rfl
  have e2 : ((s.heap.push PySem.W.emptyDict).push (PySem.W.instObj C s.heap.objs.size)).get? (s.heap.objs.size + 1) = some (PySem.W.instObj C s.heap.objs.size) := by
    have := Heap.get?_push_size (s.heap.push PySem.W.emptyDict) (o := PySem.W.instObj C s.heap.objs.size) rfl
    rwa [Heap.size_push] at this
  have e3 : (s.heap.push PySem.W.emptyDict).Ns s.heap.objs.size (fun _ => none) := ⟨PySem.W.emptyDict, #[], _, e1, rfl, (fun e he => absurd he (by simp)), fun _ => rfl⟩
  have I1 := I.laid (a := s.heap.objs.size) (o := .own (s.heap.objs.size + 1)) (h' := s.heap.push PySem.W.emptyDict) (t' := s.toks) (fun b u q => Heap.get?_push_of_some _ q) (Nat.le_refl _) ⟨_, e1⟩
  refine I1.laid (a := s.heap.objs.size + 1) (o := .ins C s.heap.objs.size []) (t' := s.toks) (fun b u q => Heap.get?_push_of_some _ q) (Nat.le_of_eq (Heap.size_push _ _)) ?_
  have ne : s.heap.objs.size ≠ s.heap.objs.size + 1 := Nat.ne_of_lt (Nat.lt_succ_self _)
  refine ⟨by rw [upd_ne ne, upd_same], Nat.zero_le _, ne, e2, fun _ => none, (Heap.Ns1.of_empty e3).at fun o q => Heap.get?_push_of_some _ q, fun _ => True.intro, fun y hy => absurd rfl hy⟩
end
section
variable {X : Cx} {o e value : Expr} {f : Str} {pos pos' tpos : Pos} {ta tv : TE}
end
section
variable {X : Cx} {pins : List (Addr × Obj)} {σ : St} {H : Hp} {s : Shared} {A : Around} {E : Value → Shared → Prop} {Q : Value → Shared → Prop} {c : Value} {b : Bool}
inductive TyOf (K : PySem.W.Frag) (H : Hp) : V → Value → Prop where
  | non : TyOf K H .non (.type "NoneType")
  | bl (x : Bool) : TyOf K H (.bl x) (.type "bool")
  | int (i : Int) : TyOf K H (.int i) (.type "int")
  | str (x : Str) : TyOf K H (.str x) (.type "str")
  | flt (x : UInt64) : TyOf K H (.flt x) (.type "float")
  | lst {a : Addr} {xs : List V} (e : H a = some (.lst xs)) : TyOf K H (.ref a) (.type "list")
  | frz {a : Addr} {o : Obj} {xs : List V} (e : H a = some (.frz o (.lst xs))) : TyOf K H (.ref a) (.type "list")
  | tup {a : Addr} {xs : List V} (e : H a = some (.tup xs)) : TyOf K H (.ref a) (.type "tuple")
  | dK {a : Addr} {kvs : List (Key × V)} (e : H a = some (.dK kvs)) : TyOf K H (.ref a) (.type "dict")
  | dT {a : Addr} {kvs : List (List Key × V)} (e : H a = some (.dT kvs)) : TyOf K H (.ref a) (.type "dict")
  | ins {a C dx : Addr} {fs : List (Str × V)} (e : H a = some (.ins C dx fs)) (cl : Cls K C) (ha : PySem.W.findIn K (.ref C) "__class__" = some (some (.builtin "object.__class__")))
      (hn : PySem.W.specialIn K (.builtin "object.__class__") "__get__" = some (some (.builtin "getset_descriptor.__get__"))) (htk : PySem.W.takesIn K (.builtin "object.__class__") = some true)
      (hm : PySem.W.mroIn K C (.type "object") = some true) : TyOf K H (.ref a) (.ref C)
theorem isinst_ok {x : V} {u t : Value} (I : Inv X pins σ H s) (rx : RelV x u) (ty : TyOf X.K H x t) (e : PySem.W.kitOne X.K t c = some b) (h : ∀ tk, Q (.bool b) { s with toks := tk }) :
    wpAny (model X.prog X.w) A (call (.builtin "isinstance") [u, c]) Q E s := by
  cases ty with
  | non => cases (show u = Value.none from rx); exact PySem.W.kia_one PySem.W.kitx_none I.kIn True.intro e (fun z => nomatch z) h
  | bl y => cases (show u = Value.bool y from rx); exact PySem.W.kia_one PySem.W.kitx_bool I.kIn True.intro e (fun z => nomatch z) h
  | int i => obtain ⟨t, q⟩ := (show ∃ t, u = Value.int i t from rx); cases q; exact PySem.W.kia_one PySem.W.kitx_int I.kIn True.intro e (fun z => nomatch z) h
  | str y => obtain ⟨t, q⟩ := (show ∃ t, u = Value.str y t from rx); cases q; exact PySem.W.kia_one PySem.W.kitx_str I.kIn True.intro e (fun z => nomatch z) h
  | flt y => obtain ⟨t, q⟩ := (show ∃ t, u = Value.float y t from rx); cases q; exact PySem.W.kia_one PySem.W.kitx_float I.kIn True.intro e (fun z => nomatch z) h
  | @lst a xs ea =>
    cases (show u = Value.ref a from rx)
    obtain ⟨_, _, n, _, h1⟩ := (show ObjOk X.prog X.w H s.heap a (.lst xs) from I.hok a _ ea)
    exact PySem.W.kia_one PySem.W.kitx_list I.kIn ⟨_, h1, rfl⟩ e (fun z => nomatch z) h
  | @frz a ob xs ea =>
    cases (show u = Value.ref a from rx)
    obtain ⟨_, _, _, n, _, h1⟩ := (show ObjOk X.prog X.w H s.heap a (.frz ob (.lst xs)) from I.hok a _ ea)
    exact PySem.W.kia_one PySem.W.kitx_list I.kIn ⟨_, h1, rfl⟩ e (fun z => nomatch z) h
  | @tup a xs ea =>
    cases (show u = Value.ref a from rx)
    obtain ⟨_, _, _, p⟩ := (show ObjOk X.prog X.w H s.heap a (.tup xs) from I.hok a _ ea)
    obtain ⟨o, h1, h2, _⟩ := p
    exact PySem.W.kia_one PySem.W.kitx_tuple I.kIn ⟨o, h1, h2⟩ e (fun z => nomatch z) h
  | @dK a kvs ea =>
    cases (show u = Value.ref a from rx)
    obtain ⟨_, _, vs, _, p⟩ := (show ObjOk X.prog X.w H s.heap a (.dK kvs) from I.hok a _ ea)
    obtain ⟨o, es, ep, h1, h2, _⟩ := p
    exact PySem.W.kia_one PySem.W.kitx_dict I.kIn ⟨o, h1, h2.1⟩ e (fun z => nomatch z) h
  | @dT a kvs ea =>
    cases (show u = Value.ref a from rx)
    obtain ⟨_, _, xs, _, o, es, ep, h1, h2, _⟩ := (show ObjOk X.prog X.w H s.heap a (.dT kvs) from I.hok a _ ea)
    exact PySem.W.kia_one PySem.W.kitx_dict I.kIn ⟨o, h1, h2.1⟩ e (fun z => nomatch z) h
  | @ins a C dx fs ea cl ha hn htk hm =>
    cases (show u = Value.ref a from rx)
    obtain ⟨mA, O, _⟩ := ins_get I.hok ea
    obtain ⟨od, J, _⟩ := O.look
    exact PySem.W.kia_one (PySem.W.kitx_own (cl.get _) cl.hd ha hn htk hm) I.kIn J e (fun z => nomatch z) h
end
end L2
namespace L2
open PySem PySem.Spec PyProof.Rows
structure Room (k : Nat) (A : Around) : Prop where
  hd : A.handled = none
  dp : A.depth + 3 * k + 5 < recursionLimit
  un : A.units + 16 * k + 200 < cLine
theorem Room.mono {j k : Nat} {A : Around} (r : Room k A) (h : j ≤ k) : Room j A := ⟨r.hd, by have := r.dp; omega, by have := r.un; omega⟩
theorem Room.deeper {k : Nat} {A : Around} (r : Room (k + 1) A) (env : Env) : Room k (A.deeper env) :=
  ⟨r.hd, by have := r.dp; show A.depth + 1 + 3 * k + 5 < _; omega, by have := r.un; show A.units + 3 + 16 * k + 200 < _; omega⟩
theorem Room.in1 {k : Nat} {A : Around} (r : Room (k + 1) A) : Room k A.in1 :=
  ⟨r.hd, by have := r.dp; show A.depth + 3 * k + 5 < _; omega, by have := r.un; show A.units + 1 + 16 * k + 200 < _; omega⟩
theorem Room.depth {k : Nat} {A : Around} (r : Room k A) : A.depth < recursionLimit := by have := r.dp; omega
theorem Room.units {k : Nat} {A : Around} (r : Room k A) : A.units + 64 < cLine := by have := r.un; omega
def tNil : TA := fun _ H Q => Q [] H
def tCons (ta : TE) (tr : TA) : TA := fun σ H Q => ta σ H fun x H1 => tr σ H1 fun xs H2 => Q (x :: xs) H2
section
variable {X : Cx} {e : Expr} {es : List Expr} {te : TE} {t : TA} {pos : Pos}
theorem pa_nil : PA X [] tNil := fun _ _ _ _ H Q I h => Calls.spliced_nil ⟨[], H, I, .nil, h⟩
theorem pa_cons (ha : PE X e te) (hr : PA X es t) (hs : starEach (e :: es) X.env = (false, eval e X.env) :: starEach es X.env := by rfl) : PA X (e :: es) (tCons te t) := by
  intro pos pins s σ H Q I h
  rw [hs]
  show wpAny _ _ (spliced ((false, eval e X.env) :: backTo pos (starEach es X.env))) _ _ s
  refine Calls.spliced_cons (thn (ha pins s σ H _ I h) fun u s1 ⟨x, H1, I1, r1, q1⟩ => ?_)
  exact thn (hr pos pins s1 σ H1 _ I1 q1) fun us s2 ⟨xs, H2, I2, r2, q2⟩ => ⟨x :: xs, H2, I2, .cons r1 r2, q2⟩
def tTup (t : TA) : TE := fun σ H Q => t σ H fun xs H1 => xs.length ≤ sizeLine ∧ ∀ p, H1 p = none → Q (.ref p) (upd H1 p (.tup xs))
def tLst (t : TA) : TE := fun σ H Q => t σ H fun xs H1 => xs.length ≤ sizeLine ∧ ∀ p, H1 p = none → Q (.ref p) (upd H1 p (.lst xs))
theorem pe_tup {x1} (h : PA X es t) : PE X (.Tuple es x1 pos) (tTup t) := by
  intro pins s σ H Q I hq
  refine wpAny_Tuple_spliced (thn (h pos pins s σ H _ I hq) fun us s1 ⟨xs, H1, I1, r, z, q⟩ => ⟨by rw [← r.length]; exact z, ?_⟩)
  have hf : H1 s1.heap.objs.size = none := I1.hok.fresh (Nat.le_refl _)
  refine ⟨.ref s1.heap.objs.size, upd H1 s1.heap.objs.size (.tup xs), I1.laid (t' := s1.toks) (fun b u e => Heap.get?_push_of_some _ e) (Nat.le_refl _) ?_, rfl, q _ hf⟩
  exact ⟨z, us, r, ⟨_, Heap.get?_push_size _ rfl, rfl, _, rfl⟩⟩
theorem pe_lst (h : PA X es t) : PE X (.List es pos) (tLst t) := by
  intro pins s σ H Q I hq
  refine wpAny_List_spliced (thn (h pos pins s σ H _ I hq) fun us s1 ⟨xs, H1, I1, r, z, q⟩ => ⟨by rw [← r.length]; exact z, ?_⟩)
  have hf : H1 s1.heap.objs.size = none := I1.hok.fresh (Nat.le_refl _)
  refine ⟨.ref s1.heap.objs.size, upd H1 s1.heap.objs.size (.lst xs), I1.laid (t' := s1.toks) (fun b u e => Heap.get?_push_of_some _ e) (Nat.le_refl _) ?_, rfl, q _ hf⟩
  exact ⟨z, us, 0, r, Heap.get?_push_size _ rfl⟩
end
abbrev Sp := List V → Hp → VK → XK → Prop
abbrev CXT := List Env → Hp → Shared → XK → Value → Shared → Prop
structure Env0 (P : Program) (w : World) (K : PySem.W.Frag) (mg : Str → Option Value) (base : Heap) (A : Around) (outer : List Env) (s : Shared) (H : Hp) : Prop where
  frames : A.frames = some outer
  mod : Mod K mg base
  bs : ∀ b o, base.get? b = some o → s.heap.get? b = some o ∧ H b = none
  bsz : base.objs.size ≤ s.heap.objs.size
  funs : s.heap.FunFrames base outer
  frf : ∀ b ∈ frs outer, H b = none
  hok : HOk P w H s.heap
  bare : AllBare s.gens
def CE (outer : List Env) (P : Program) (w : World) (H : Hp) (s : Shared) (Q : VK) (u : Value) (s' : Shared) : Prop :=
  ∃ v H', s'.os = s.os ∧ AllBare s'.gens ∧ Un (frs outer) [] H H' s.heap s'.heap ∧ HOk P w H' s'.heap ∧ RelV v u ∧ Q v H'
def CR (CX : CXT) (outer : List Env) (P : Program) (w : World) (H : Hp) (s : Shared) (Q : VK) (E : XK) (r : Result) (s' : Shared) : Prop :=
  match r with
  | .ok (.ret u) => CE outer P w H s Q u s'
  | .ok _ => False
  | .error e => CX outer H s E e s'
structure FnOk (P : Program) (w : World) (K : PySem.W.Frag) (mg : Str → Option Value) (base : Heap) (CX : CXT) (k : Nat) (f : Addr) (fd : FuncData) (ps : List Str) (sp : Sp) : Prop where
  len : ∀ vs H Q E, sp vs H Q E → vs.length = ps.length
  run : ∀ (A : Around) (outer : List Env) (s : Shared) (H : Hp) (args : Args) (us : List Value) (vs : List V) (Q : VK) (E : XK), Room k A → Env0 P w K mg base A outer s H → BindsTo s fd args (ps.zip us) → Vals vs us → sp vs H Q E →
    codeAny (model P w) A (.call (.ref f) args) (CR CX outer P w H s Q E) s
theorem FnOk.mono {P : Program} {w : World} {K : PySem.W.Frag} {mg : Str → Option Value} {base : Heap} {CX : CXT} {j k : Nat} {f : Addr} {fd : FuncData} {ps : List Str} {sp : Sp} (F : FnOk P w K mg base CX j f fd ps sp) (h : j ≤ k) :
    FnOk P w K mg base CX k f fd ps sp := ⟨F.len, fun A outer s H args us vs Q E hr => F.run A outer s H args us vs Q E (hr.mono h)⟩
theorem FnOk.imp {P : Program} {w : World} {K : PySem.W.Frag} {mg : Str → Option Value} {base : Heap} {CX : CXT} {k : Nat} {f : Addr} {fd : FuncData} {ps : List Str} {sp sp' : Sp} (F : FnOk P w K mg base CX k f fd ps sp)
    (h : ∀ vs H Q E, sp' vs H Q E → sp vs H Q E) : FnOk P w K mg base CX k f fd ps sp' :=
  ⟨fun vs H Q E q => F.len vs H Q E (h _ _ _ _ q), fun A outer s H args us vs Q E hr he hb hv hs => F.run A outer s H args us vs Q E hr he hb hv (h _ _ _ _ hs)⟩
theorem Env0.in1 {P : Program} {w : World} {K : PySem.W.Frag} {mg : Str → Option Value} {base : Heap} {A : Around} {outer : List Env} {s : Shared} {H : Hp} (e : Env0 P w K mg base A outer s H) :
    Env0 P w K mg base A.in1 outer s H := ⟨e.frames, e.mod, e.bs, e.bsz, e.funs, e.frf, e.hok, e.bare⟩
section
variable {X : Cx} {pins : List (Addr × Obj)} {σ : St} {H : Hp} {s s' : Shared}
theorem Inv.env0 (I : Inv X pins σ H s) : Env0 X.prog X.w X.K X.mg X.base X.A X.stack s H :=
  ⟨I.ok.frames, I.ok.mod, I.bs, Nat.le_trans I.ok.bsz I.sz, I.stack, I.stkFree, I.hok, I.bare⟩
theorem Inv.after {Q : VK} {u : Value} (I : Inv X pins σ H s) (h : CE X.stack X.prog X.w H s Q u s') : EP X pins σ Q u s' := by
  obtain ⟨v, H', os, bare, un, hok, r, q⟩ := h
  obtain ⟨hh, g, d, t, os'⟩ := s'
  obtain rfl : os' = s.os := os
  exact ⟨v, H', I.call (h' := hh) (g' := g) (d' := d) (t' := t) (ch := []) un hok bare (fun b z => absurd z (by simp)), r, q⟩
end
def tCall (sp : Sp) (dvs : List V) (E : XK) (t : TA) : TE := fun σ H Q => t σ H fun vs H1 => sp (vs ++ dvs) H1 Q E
def Binds (K : PySem.W.Frag) (fd : FuncData) (ps : List Str) (ds : List Value) : Prop :=
  ∀ (s : Shared) (us : List Value), K.In s.heap → (us ++ ds).length = ps.length → BindsTo s fd ⟨us, []⟩ (ps.zip (us ++ ds))
theorem Binds.all {K : PySem.W.Frag} {fd : FuncData} {ps : List Str} (h : ∀ us : List Value, us.length = ps.length → bindArgs fd ⟨us, []⟩ = pure (ps.zip us)) : Binds K fd ps [] := fun s us _ hl => by
  rw [List.append_nil] at hl ⊢
  exact .of_eq (h us hl)
def Passes (CX : CXT) (X : Cx) (E : XK) : Prop := ∀ (pins : List (Addr × Obj)) (σ : St) (H : Hp) (s : Shared) (e : Value) (s' : Shared), Inv X pins σ H s → CX X.stack H s E e s' → X.xe e s'
section
variable {X : Cx} {CX : CXT} {k : Nat} {f C : Addr} {fd : FuncData} {ps : List Str} {sp : Sp} {dvs : List V} {ds : List Value} {E : XK} {x m : Str} {p pos apos : Pos} {e o : Expr} {es : List Expr} {ta : TE} {t : TA}
theorem run_fn {pins : List (Addr × Obj)} {σ : St} {H : Hp} {s : Shared} {Q : VK} {us : List Value} {vs : List V} (F : FnOk X.prog X.w X.K X.mg X.base CX k f fd ps sp) (hr : Room k X.A) (hb : Binds X.K fd ps ds) (hd : Vals dvs ds) (hx : Passes CX X E)
    (I : Inv X pins σ H s) (r : Vals vs us) (h : sp (vs ++ dvs) H Q E) : wpAny (model X.prog X.w) X.A (call (.ref f) us) (EP X pins σ Q) X.xe s := by
  have r2 : Vals (vs ++ dvs) (us ++ ds) := r.append hd
  have hl : (us ++ ds).length = ps.length := by rw [← r2.length]; exact F.len _ _ _ _ h
  refine wpAny_call (codeAny_mono (F.run X.A X.stack s H ⟨us, []⟩ (us ++ ds) (vs ++ dvs) Q E hr I.env0 (hb s us I.kIn hl) r2 h) fun r s' hq => ?_)
  cases r with
  | error e => exact hx pins σ H s e s' I hq
  | ok fl =>
    cases fl with
    | ret u => exact I.after hq
    | next => exact False.elim hq
    | brk => exact False.elim hq
    | cont => exact False.elim hq
theorem pe_call (F : FnOk X.prog X.w X.K X.mg X.base CX k f fd ps sp) (hr : Room k X.A) (hg : Gl X x) (hm : X.mg x = some (.ref f)) (hk : PySem.W.keepIn X.K (.ref f) = true) (hb : Binds X.K fd ps ds) (hd : Vals dvs ds) (hx : Passes CX X E)
    (ha : PA X (e :: es) t) (hdb : (x == ("__debug__" : Str)) = false := by decide) (he : starEach (e :: es) X.env = (false, eval e X.env) :: starEach es X.env := by rfl) (hpl : (backTo pos (starEach es X.env)).any (·.1) = false := by rfl) :
    PE X (.Call (.Name x p) (e :: es) [] pos) (tCall sp dvs E t) := by
  intro pins s σ H Q I h
  refine wpAny_Call_Name_kw (ld_glob I hg hm ?_ hdb)
  refine PySem.W.callWith_K (h₀ := X.base) I.ok.mod.kin hk (thn (ha pos pins s σ H _ I h) fun us s1 ⟨vs, H1, I1, r, q⟩ => ⟨I1.kIn, ?_⟩) he hpl
  exact run_fn F hr hb hd hx I1 r q
structure Mk (K : PySem.W.Frag) (C f : Addr) : Prop where
  makes : PySem.W.makesIn K C = true
  init : PySem.W.findIn K (.ref C) "__init__" = some (some (.ref f))
  fn : PySem.W.isFn K (.ref f) = true
  kp : PySem.W.keepIn K (.ref C) = true
end
section
variable {X : Cx} {CX : CXT} {k : Nat} {f C : Addr} {fd : FuncData} {ps ks : List Str} {sp : Sp} {E : XK} {x m : Str} {p pos apos kpos : Pos} {e o : Expr} {es : List Expr} {kws : List Keyword} {te ta : TE} {t tk : TA} {nm : Option Str}
structure KBinds (K : PySem.W.Frag) (fd : FuncData) (ps ks : List Str) (g : List Value → List Value → List Value) (gV : List V → List V → List V) : Prop where
  to : ∀ (s : Shared) (us ws : List Value), K.In s.heap → (g us ws).length = ps.length → BindsTo s fd ⟨us, ks.zip ws⟩ (ps.zip (g us ws))
  rel : ∀ {vs : List V} {us : List Value} {zs : List V} {ws : List Value}, Vals vs us → Vals zs ws → Vals (gV vs zs) (g us ws)
variable {g : List Value → List Value → List Value} {gV : List V → List V → List V}
end
structure FnScope (N P : List Str) (sc : Scope) : Prop where
  kind : sc.kind = .function
  co : sc.isCoroutine = false
  gen : sc.isGenerator = false
  nd : N.Nodup
  pre : N.take P.length = P
  par : ∀ x ∈ P, sc.names.lookup x = some .local ∨ sc.names.lookup x = some .cell
  nofree : ∀ y ∈ sc.names, y.2 ≠ .free
theorem bindL_out {kindOf : Str → Option NameKind} {x : Str} : ∀ {binds : List (Str × Value)} {m : Str → Option Value}, (∀ v, (x, v) ∉ binds) → bindL kindOf binds m x = m x
  | [], _, _ => rfl
  | (n, v) :: r, m, h => by
    unfold bindL
    rw [bindL_out fun w hw => h w (List.mem_cons_of_mem _ hw)]
    split
    · have : x ≠ n := by rintro rfl; exact h v List.mem_cons_self
      simp [this]
    · rfl
theorem bindC_out {kindOf : Str → Option NameKind} {x : Str} : ∀ {binds : List (Str × Value)} {m : Str → Option Value}, (∀ v, (x, v) ∉ binds) → bindC kindOf binds m x = m x
  | [], _, _ => rfl
  | (n, v) :: r, m, h => by
    unfold bindC
    rw [bindC_out fun w hw => h w (List.mem_cons_of_mem _ hw)]
    split
    · rfl
    · have : x ≠ n := by rintro rfl; exact h v List.mem_cons_self
      simp [this]
theorem bindL_get {kindOf : Str → Option NameKind} {x : Str} {v : Value} : ∀ {P : List Str} {vs : List Value} {i : Nat} {m : Str → Option Value}, P.Nodup → P[i]? = some x → vs[i]? = some v → kindOf x = some .local →
    bindL kindOf (P.zip vs) m x = some v
  | [], _, _, _, _, h, _, _ => by simp at h
  | _ :: _, [], _, _, _, _, h, _ => by simp at h
  | p :: P, w :: vs, 0, m, nd, h1, h2, hk => by
    simp at h1 h2; subst h1; subst h2
    show bindL kindOf ((p, w) :: P.zip vs) m p = _
    unfold bindL
    rw [bindL_out fun v hv => (List.nodup_cons.mp nd).1 (List.of_mem_zip hv).1, if_pos hk]
    simp
  | p :: P, w :: vs, i + 1, m, nd, h1, h2, hk => by
    show bindL kindOf ((p, w) :: P.zip vs) m x = _
    unfold bindL
    exact bindL_get (i := i) (List.nodup_cons.mp nd).2 (by simpa using h1) (by simpa using h2) hk
theorem bindC_get {kindOf : Str → Option NameKind} {x : Str} {v : Value} : ∀ {P : List Str} {vs : List Value} {i : Nat} {m : Str → Option Value}, P.Nodup → P[i]? = some x → vs[i]? = some v → kindOf x ≠ some .local →
    bindC kindOf (P.zip vs) m x = some v
  | [], _, _, _, _, h, _, _ => by simp at h
  | _ :: _, [], _, _, _, _, h, _ => by simp at h
  | p :: P, w :: vs, 0, m, nd, h1, h2, hk => by
    simp at h1 h2; subst h1; subst h2
    show bindC kindOf ((p, w) :: P.zip vs) m p = _
    unfold bindC
    rw [bindC_out fun v hv => (List.nodup_cons.mp nd).1 (List.of_mem_zip hv).1, if_neg hk]
    simp
  | p :: P, w :: vs, i + 1, m, nd, h1, h2, hk => by
    show bindC kindOf ((p, w) :: P.zip vs) m x = _
    unfold bindC
    exact bindC_get (i := i) (List.nodup_cons.mp nd).2 (by simpa using h1) (by simpa using h2) hk
def start (N : List Str) (vs : List V) : St := vs.map some ++ List.replicate (N.length - vs.length) none
def cxOf (CX : CXT) (P : Program) (w : World) (K : PySem.W.Frag) (mg : Str → Option Value) (base : Heap) (N : List Str) (qual : Str) (scope : Scope) (f : Addr) (cd : Value) (A : Around) (outer : List Env) (s : Shared) (H : Hp) (E : XK) : Cx where
  prog := P
  w := w
  K := K
  mg := mg
  base := base
  A := A.deeper (envOfC qual scope s.heap.objs.size f cd)
  N := N
  s₀ := s
  H₀ := H
  env := envOfC qual scope s.heap.objs.size f cd
  outer := outer
  stack := envOfC qual scope s.heap.objs.size f cd :: outer
  ex := []
  calm := true
  fn := fun _ => true
  pn := []
  xe := fun e s' => wpAny (model P w) (A.deeper (envOfC qual scope s.heap.objs.size f cd)) (leaving (envOfC qual scope s.heap.objs.size f cd) e) (fun _ s'' => CX outer H s E e s'') (fun e' s'' => CX outer H s E e' s'') s'
theorem cell_has {sc : Scope} {n : Nat} {x : Str} (h : sc.names.lookup x = some .cell) : ∃ c, (cellsFrom n sc.names []).lookup x = some c := by
  have q := PySem.W.cellsFrom_some sc.names n [] (.inl h)
  exact Option.isSome_iff_exists.mp q
theorem inv_start {CX : CXT} {P : Program} {w : World} {K : PySem.W.Frag} {mg : Str → Option Value} {base : Heap} {N ps : List Str} {qual : Str} {scope : Scope} {f : Addr} {cd : Value} {A : Around} {outer : List Env} {s s1 : Shared} {H : Hp} {E : XK} {us : List Value} {vs : List V}
    (S : FnScope N ps scope) (hd : A.handled = none) (e0 : Env0 P w K mg base A outer s H) (hl : vs.length = ps.length) (r : Vals vs us)
    (x : InCallC s s.heap.objs.size (bindL (envOfC qual scope s.heap.objs.size f cd).kindOf (ps.zip us) fun _ => none) (cellsFrom (s.heap.objs.size + 1) scope.names []) (bindC (envOfC qual scope s.heap.objs.size f cd).kindOf (ps.zip us) fun _ => none) s1) :
    Inv (cxOf CX P w K mg base N qual scope f cd A outer s H E) [] (start N vs) H s1 := by
  have hpl : ps.length ≤ N.length := by have := congrArg List.length S.pre; rw [List.length_take] at this; omega
  obtain ⟨h1, tk, rfl, hk⟩ := x.done
  have noA : ∀ b : Addr, b ∉ (cxOf CX P w K mg base N qual scope f cd A outer s H E).ex := fun b z => absurd (show b ∈ ([] : List Addr) from z) (by simp)
  refine ⟨⟨e0.mod, S.kind, rfl, rfl, Nat.le_refl _, fun y z c h1 h2 => ?_, fun y hy => ?_, fun y c _ h => ?_, fun _ => hd, Around.frames_deeper e0.frames, .inr ⟨rfl, rfl⟩, fun b z => absurd z (noA b), e0.bs, e0.bsz, fun b _ _ => noA b, fun b z => absurd z (noA b), e0.funs, e0.frf⟩,
    rfl, e0.bare, Un.kept hk, ⟨_, x.toInCall.ns, fun i y v h1 h2 h3 => ?_⟩, fun y c h => ⟨_, x.cell y c h⟩, e0.hok.fresh (Nat.le_refl _), fun y c h => ?_, fun p hp => absurd (show p ∈ ([] : List (Addr × Obj)) from hp) (by simp), e0.hok.kept hk, ?_⟩
  · exact name_of_addr x.apart (PySem.mem_of_lookup h1) (PySem.mem_of_lookup h2)
  · have hy : scope.names.lookup y = some .cell ∨ scope.names.lookup y = some .free := hy
    rcases hy with hy | hy
    · exact cell_has hy
    · exact absurd rfl (S.nofree _ (PySem.mem_of_lookup hy))
  · exact Nat.le_of_lt (x.above y c (PySem.mem_of_lookup h))
  · have hi : i < vs.length := by
      unfold start at h2
      by_cases hi : i < vs.length
      · exact hi
      · rw [List.getElem?_append_right (by simpa using hi)] at h2
        rw [List.getElem?_replicate] at h2
        split at h2 <;> cases h2
    have ha : vs[i]? = some v := by
      unfold start at h2
      rw [List.getElem?_append_left (by simpa using hi), List.getElem?_map] at h2
      cases e : vs[i]? with
      | none => rw [e] at h2; cases h2
      | some a => rw [e] at h2; cases h2; rfl
    obtain ⟨u, hu, rv⟩ := r.get ha
    have hp : ps[i]? = some y := by
      rw [← S.pre, List.getElem?_take_of_lt (by omega)]; exact h1
    have ndP : ps.Nodup := by rw [← S.pre]; exact S.nd.sublist (List.take_sublist _ _)
    refine ⟨u, rv, ?_⟩
    rcases S.par y (List.mem_of_getElem? hp) with k | k
    · exact .inl ⟨k, bindL_get ndP hp hu k⟩
    · obtain ⟨c, e⟩ := cell_has (n := s.heap.objs.size + 1) k
      refine .inr ⟨.inl k, c, e, ?_⟩
      have q := x.cell y c e
      rw [bindC_get ndP hp hu (by show scope.names.lookup y ≠ _; rw [k]; decide)] at q
      exact q
  · exact e0.hok.fresh (Nat.le_of_lt (x.above y c (PySem.mem_of_lookup h)))
  · unfold start
    show _ = N.length
    rw [List.length_append, List.length_map, List.length_replicate]
    omega
theorem fn_of {CX : CXT} {P : Program} {w : World} {K : PySem.W.Frag} {mg : Str → Option Value} {base : Heap} {k : Nat} {f : Addr} {name qual : Str} {params : Arguments} {body : List Stmt} {scope : Scope} {dV kV doc pm cdv ct oc : Value} {an od : Option Addr}
    {osl : Array (Option Value)} {N ps : List Str} {sp : Sp} (lk : K.lookup f = some ⟨oc, od, .func (PySem.W.fnOf name qual params body scope dV kV doc pm an cdv ct), osl⟩) (hcd : PySem.W.codeIn K cdv qual = true) (S : FnScope N ps scope)
    (len : ∀ vs H Q E, sp vs H Q E → vs.length = ps.length)
    (hbody : ∀ (A : Around) (outer : List Env) (s : Shared) (H : Hp) (vs : List V) (Q : VK) (E : XK), Room k (A.deeper (envOfC qual scope s.heap.objs.size f cdv)) → sp vs H Q E →
      ∃ t, PSs (cxOf CX P w K mg base N qual scope f cdv A outer s H E) body t ∧ t { nx := fun _ H' => Q .non H', rt := Q } (start N vs) H) :
    FnOk P w K mg base CX (k + 1) f (PySem.W.fnOf name qual params body scope dV kV doc pm an cdv ct) ps sp := by
  refine ⟨len, fun A outer s H args us vs Q E hr e0 hb r hsp => ?_⟩
  have hl := len _ _ _ _ hsp
  have KX : K.In s.heap := e0.mod.kin.keeps fun b o e => (e0.bs b o e).1
  have lim : s.heap.NoLimit := e0.mod.nolimit.keeps fun b o e => (e0.bs b o e).1
  have hkind : ∀ y ∈ ps.zip us, scope.names.lookup y.1 = some .local ∨ (scope.names.lookup y.1 = some .cell ∧ ((cellsFrom (s.heap.objs.size + 1) scope.names []).lookup y.1).isSome = true) := fun ⟨n, v⟩ hy => by
    rcases S.par n (List.of_mem_zip hy).1 with q | q
    · exact .inl q
    · exact .inr ⟨q, PySem.W.cellsFrom_some _ _ _ (.inl q)⟩
  refine codeAny_call_function hr.depth (KX _ _ lk) rfl S.co S.gen rfl (PySem.W.codeRec_of KX hcd) (hb _ _ _ _ ?_)
  refine wpAny_newFunctionEnv_cells S.kind hkind fun env he s1 x => ?_
  subst he
  refine ⟨lim.keeps x.toInCall.keep, codeAny_func ?_⟩
  obtain ⟨t, ht, hq⟩ := hbody A outer s H vs Q E (hr.deeper _) hsp
  have I : Inv (cxOf CX P w K mg base N qual scope f cdv A outer s H E) [] (start N vs) H s1 := inv_start S hr.hd e0 hl r x
  refine wpAny_mono (ht [] s1 (start N vs) H _ I hq) (fun fl s' hs => ?_) fun e s' hs => hs
  have fin : ∀ {σ' : St} {H' : Hp} {v : V} {u : Value}, Inv (cxOf CX P w K mg base N qual scope f cdv A outer s H E) [] σ' H' s' → RelV v u → Q v H' → CE outer P w H s Q u s' :=
    fun {σ' H' v u} J rv q => ⟨v, H', J.os, J.bare, J.base, J.hok, rv, q⟩
  cases fl with
  | ret u =>
    obtain ⟨v, σ', H', J, rv, q⟩ := hs
    exact fin J rv q
  | next =>
    obtain ⟨σ', H', J, q⟩ := hs
    exact fin (v := V.non) (u := Value.none) J rfl q
  | brk =>
    obtain ⟨_, _, _, q⟩ := hs
    exact False.elim q
  | cont =>
    obtain ⟨_, _, _, q⟩ := hs
    exact False.elim q
end L2
namespace L2
open PySem PySem.Spec PyProof.Rows
section
variable {X : Cx} {x : Str} {p pos : Pos} {e : Expr} {es : List Expr} {t : TA} {id T : String} {r : List V → Hp → VK → Prop}
def tCB (r : List V → Hp → VK → Prop) (t : TA) : TE := fun σ H Q => t σ H fun vs H1 => r vs H1 Q
theorem pe_callB (hc : CallR X (.builtin id) r) (hg : Gl X x) (hm : X.mg x = none) (hv : bootBuiltins x = some (.builtin id)) (ha : PA X (e :: es) t) (hn : x ≠ "__name__" := by decide) (hdb : (x == ("__debug__" : Str)) = false := by decide)
    (he : starEach (e :: es) X.env = (false, eval e X.env) :: starEach es X.env := by rfl) (hpl : (backTo pos (starEach es X.env)).any (·.1) = false := by rfl) : PE X (.Call (.Name x p) (e :: es) [] pos) (tCB r t) := by
  intro pins s σ H Q I h
  refine wpAny_Call_Name_kw (ld_blt I hg hm hv ?_ hn hdb)
  exact PyProof.Rows.callWith_builtin1 (thn (ha pos pins s σ H _ I h) fun us s1 ⟨vs, H1, I1, r1, q1⟩ => hc pins s1 σ H1 vs us Q I1 r1 q1) he hpl
theorem pe_callTy (hc : CallR X (.type T) r) (hg : Gl X x) (hm : X.mg x = none) (hv : bootBuiltins x = some (.type T)) (ha : PA X (e :: es) t) (hn : x ≠ "__name__" := by decide) (hdb : (x == ("__debug__" : Str)) = false := by decide)
    (he : starEach (e :: es) X.env = (false, eval e X.env) :: starEach es X.env := by rfl) (hpl : (backTo pos (starEach es X.env)).any (·.1) = false := by rfl) : PE X (.Call (.Name x p) (e :: es) [] pos) (tCB r t) := by
  intro pins s σ H Q I h
  refine wpAny_Call_Name_kw (ld_blt I hg hm hv ?_ hn hdb)
  exact PyProof.Rows.callWith_type1 (thn (ha pos pins s σ H _ I h) fun us s1 ⟨vs, H1, I1, r1, q1⟩ => hc pins s1 σ H1 vs us Q I1 r1 q1) he hpl
end
end L2
namespace HT
open PySem PyProof.Rows
section
open PySem.SeqAt
open PySem.AutoSeq1 (wpAny_loadPart')
open PySem.MeetsSeq PySem.MeetsSeq2 PySem.MeetsSeq3
end
section
variable {prog : Program} {w : World} {A : Around} {E : Value → Shared → Prop} {s : Shared}
def sIx (n d : Nat) : Option Int → Nat
  | none => d
  | some v => if v < 0 then (v + (n : Int)).toNat else min v.toNat n
end
end HT
namespace L2
open PySem PySem.Spec PyProof.Rows
abbrev TO := St → Hp → (Option Int → Hp → Prop) → Prop
def PO (X : Cx) (e : Option Expr) (t : TO) : Prop :=
  ∀ (pins : List (Addr × Obj)) (s : Shared) (σ : St) (H : Hp) (Q : Option Int → Hp → Prop), Inv X pins σ H s → t σ H Q →
    wpAny (model X.prog X.w) X.A (evalPart e X.env) (fun u s' => ∃ o H', Inv X pins σ H' s' ∧ IsPart u o ∧ Q o H') X.xe s
def tNoPart : TO := fun _ H Q => Q none H
def tPart (t : TE) : TO := fun σ H Q => t σ H fun x H1 => ∃ i, x = .int i ∧ Q (some i) H1
theorem intsAre_of {ns : List Int} : ∀ {us : List Value}, Vals (ns.map V.int) us → IntsAre us ns := by
  induction ns with
  | nil => intro us r; rw [List.map_nil] at r; cases r; exact .nil
  | cons n ns ih =>
    intro us r
    rw [List.map_cons] at r
    cases r with
    | cons r1 r2 =>
      obtain ⟨t, e⟩ := r1
      subst e
      exact .cons n t (ih r2)
section
variable {X : Cx} {e : Expr} {te : TE} {lo hi : Option Expr} {tl th : TO} {pos p2 : Pos}
theorem po_none : PO X none tNoPart := by
  intro pins s σ H Q I h
  rw [evalPart_none]
  exact wpAny_pure ⟨none, H, I, .none, h⟩
theorem po_some (h : PE X e te) : PO X (some e) (tPart te) := by
  intro pins s σ H Q I hw
  rw [evalPart_some]
  refine thn (h pins s σ H _ I hw) fun u s1 ⟨x, H1, I1, r1, q1⟩ => ?_
  obtain ⟨i, rfl, q⟩ := q1
  obtain ⟨t, rfl⟩ := r1
  exact ⟨some i, H1, I1, .int i t, q⟩
def SlR (X : Cx) (r : V → Option Int → Option Int → Hp → VK → Prop) : Prop :=
  ∀ (pins : List (Addr × Obj)) (s : Shared) (σ : St) (H : Hp) (x : V) (v vl vu : Value) (lo hi : Option Int) (sl : Addr) (Q : VK), Inv X pins σ H s → RelV x v → s.heap.IsSliceOf sl vl vu .none → IsPart vl lo → IsPart vu hi → r x lo hi H Q →
    ∃ T id, typeLookup (.type T) "__getitem__" = pure (some (.builtin id)) ∧ s.TypeIs v T ∧ wpAny (model X.prog X.w) X.A (getItem v (.ref sl)) (EP X pins σ Q) X.xe s
def tSl (r : V → Option Int → Option Int → Hp → VK → Prop) (te : TE) (tl th : TO) : TE := fun σ H Q => te σ H fun x H1 => tl σ H1 fun l H2 => th σ H2 fun u H3 => r x l u H3 Q
theorem pe_slice {r : V → Option Int → Option Int → Hp → VK → Prop} (hr : SlR X r) (he : PE X e te) (hl : PO X lo tl) (hu : PO X hi th) : PE X (.Subscript e (.Slice lo hi none p2) pos) (tSl r te tl th) := by
  intro pins s σ H Q I h
  refine Subscript_ (thn (he pins s σ H _ I h) fun v s1 ⟨x, H1, I1, r1, q1⟩ => ?_)
  refine wpAny_Slice (thn (hl pins s1 σ H1 _ I1 q1) fun vl s2 ⟨l, H2, I2, pl, q2⟩ => thn (hu pins s2 σ H2 _ I2 q2) fun vu s3 ⟨u, H3, I3, pu, q3⟩ => ?_)
  rw [evalPart_none]
  refine wpAny_pure ?_
  have I4 : Inv X pins σ H3 { s3 with heap := s3.heap.push { cls := .type "slice", data := .fields #[vl, vu, .none] } } := I3.kept (t' := s3.toks) fun b ob q => Heap.get?_push_of_some _ q
  obtain ⟨T, id, hT, ht, hg⟩ := hr pins { s3 with heap := s3.heap.push { cls := .type "slice", data := .fields #[vl, vu, .none] } } σ H3 x v vl vu l u s3.heap.objs.size Q I4 r1 (Heap.IsSliceOf.new ..) pl pu q3
  show wpAny (model X.prog X.w) X.A (subscriptTail e (.Slice lo hi none p2) v (.ref s3.heap.objs.size)) (EP X pins σ Q) X.xe { s3 with heap := s3.heap.push { cls := .type "slice", data := .fields #[vl, vu, .none] } }
  exact tail_any (ops := [.ref s3.heap.objs.size, v]) ht hT hg (by with_unfolding_all rfl)
def cutV (xs : List V) (lo hi : Option Int) : List V := (xs.drop (HT.sIx xs.length 0 lo)).take (HT.sIx xs.length xs.length hi - HT.sIx xs.length 0 lo)
theorem cutV_length (xs : List V) (lo hi : Option Int) : (cutV xs lo hi).length ≤ xs.length := by
  unfold cutV
  rw [List.length_take, List.length_drop]
  omega
end
end L2
namespace L2
open PySem PySem.Spec PyProof.Rows
def ixN (n : Nat) (i : Int) : Option Nat := if 0 ≤ i then (if i < n then some i.toNat else none) else if -(n : Int) ≤ i then some (i + n).toNat else none
def atI {α : Type} (xs : List α) (i : Int) : Option α := (ixN xs.length i).bind fun j => xs[j]?
theorem ixN_seq {n : Nat} {i : Int} {j : Nat} (h : ixN n i = some j) : seqIndex? i n = some j ∧ j < n ∧ -(n : Int) ≤ i ∧ i < n := by
  unfold ixN at h
  by_cases h0 : 0 ≤ i
  · rw [if_pos h0] at h
    by_cases h1 : i < n
    · rw [if_pos h1] at h
      have e : i.toNat = j := Option.some.inj h
      exact ⟨by rw [seqIndex_of h0 h1, e], by omega, by omega, h1⟩
    · rw [if_neg h1] at h; cases h
  · rw [if_neg h0] at h
    by_cases h1 : -(n : Int) ≤ i
    · rw [if_pos h1] at h
      have e : (i + n).toNat = j := Option.some.inj h
      exact ⟨by rw [seqIndex_neg (by omega) h1, e], by omega, h1, by omega⟩
    · rw [if_neg h1] at h; cases h
theorem atI_get {α : Type} {xs : List α} {i : Int} {v : α} (h : atI xs i = some v) : ∃ j, seqIndex? i xs.length = some j ∧ xs[j]? = some v ∧ j < xs.length ∧ -(xs.length : Int) ≤ i ∧ i < xs.length := by
  unfold atI at h
  cases e : ixN xs.length i with
  | none => rw [e] at h; cases h
  | some j =>
    rw [e] at h
    obtain ⟨h1, h2, h3, h4⟩ := ixN_seq e
    exact ⟨j, h1, h, h2, h3, h4⟩
theorem atI_nat {α : Type} {xs : List α} {j : Nat} {v : α} (h : xs[j]? = some v) : atI xs (j : Int) = some v := by
  have hj : j < xs.length := (List.getElem?_eq_some_iff.mp h).1
  have e : ixN xs.length (j : Int) = some j := by
    unfold ixN
    rw [if_pos (by omega), if_pos (by omega)]; simp
  unfold atI; rw [e]; exact h
def PlainIx (b : Expr) : Prop := ∀ o i, subscripted b false o i = operate [o, i] (getItem o i)
def IxR (X : Cx) (r : R2) : Prop :=
  ∀ (value slice : Expr) (pins : List (Addr × Obj)) (s : Shared) (σ : St) (H : Hp) (x y : V) (v u : Value) (Q : VK), Inv X pins σ H s → RelV x v → RelV y u → r x y H Q →
    subscripted slice false v u = operate [v, u] (getItem v u) → wpAny (model X.prog X.w) X.A (subscriptTail value slice v u) (EP X pins σ Q) X.xe s
def MtR (X : Cx) (id : String) (r : V → List V → Hp → VK → Prop) : Prop :=
  ∀ (pins : List (Addr × Obj)) (s : Shared) (σ : St) (H : Hp) (x : V) (xs : List V) (v : Value) (us : List Value) (Q : VK), Inv X pins σ H s → RelV x v → Vals xs us → r x xs H Q →
    wpAny (model X.prog X.w) X.A (call (.builtin id) (v :: us)) (EP X pins σ Q) X.xe s
section
variable {X : Cx} {a b : Expr} {ta tb : TE} {pos : Pos}
theorem pe_ix {r : R2} (hr : IxR X r) (ha : PE X a ta) (hb : PE X b tb) (hs : PlainIx b) : PE X (.Subscript a b pos) (tOp r ta tb) := by
  intro pins s σ H Q I h
  exact Subscript_ (binT ha hb I h fun v u s2 x y H2 I2 rx ry q => hr a b pins s2 σ H2 x y v u Q I2 rx ry q (hs _ _))
def rIxL (K : PySem.W.Frag) : R2 := fun x y H Q => ∃ p xs i v, x = .ref p ∧ y = .int i ∧ SqL K H p xs ∧ atI xs i = some v ∧ Q v H
def rIxT (K : PySem.W.Frag) : R2 := fun x y H Q => ∃ p xs i v, x = .ref p ∧ y = .int i ∧ SqT K H p xs ∧ atI xs i = some v ∧ Q v H
theorem ix_list : IxR X (rIxL X.K) := by
  intro value slice pins s σ H x y v u Q I rx ry h hs
  obtain ⟨p, xs, i, z, rfl, rfl, hq, he, q⟩ := h
  cases rx
  obtain ⟨t, rfl⟩ := ry
  obtain ⟨its, r, pl, hz⟩ := I.list hq
  obtain ⟨j, h1, h2, h3, h4, h5⟩ := atI_get he
  obtain ⟨w, ew, rw'⟩ := r.get h2
  have hl := r.length
  have hn := line63
  have fin : EP X pins σ Q w s := ⟨z, H, I, rw', q⟩
  by_cases h0 : 0 ≤ i
  · have hj : i.toNat = j := by
      rw [seqIndex_of h0 h5] at h1
      exact Option.some.inj h1
    exact item_listR pl.isList h0 (by omega) (by rw [hj]; simpa using ew) fin hs
  · have hj : (i + (its.toArray.size : Int)).toNat = j := by
      rw [seqIndex_neg (by omega) h4] at h1
      rw [List.size_toArray, ← hl]
      exact Option.some.inj h1
    exact subscriptTail_builtinR (x := w) pl.isList.typeIs slot_list_getitem.lookup
      (wpAny_getItem_list_neg (Q := fun r s' => r = w ∧ EP X pins σ Q r s') pl.isList (by omega) (by rw [List.size_toArray] <;> omega) (by omega) (by rw [hj]; simpa using ew) ⟨rfl, fin⟩) hs
theorem ix_tup : IxR X (rIxT X.K) := by
  intro value slice pins s σ H x y v u Q I rx ry h hs
  obtain ⟨p, xs, i, z, rfl, rfl, hq, he, q⟩ := h
  cases rx
  obtain ⟨t, rfl⟩ := ry
  obtain ⟨its, r, pl, hz⟩ := I.tuple hq
  obtain ⟨j, h1, h2, h3, h4, h5⟩ := atI_get he
  obtain ⟨w, ew, rw'⟩ := r.get h2
  have hl := r.length
  have hn := line63
  have fin : EP X pins σ Q w s := ⟨z, H, I, rw', q⟩
  exact subscriptTail_builtinR (x := w) pl.typeIs slot_tuple_getitem.lookup
    (getItem_tuple (j := j) (Q := fun r s' => r = w ∧ EP X pins σ Q r s') pl (by omega) (by omega) (by rw [List.size_toArray, ← hl]; exact h1) (by simpa using ew) ⟨rfl, fin⟩) hs
theorem mapSeq_set (its : List Value) (n j : Nat) (u : Value) : Obj.mapSeq (·.setIfInBounds j u) { cls := .type "list", data := .seq its.toArray n } = { cls := .type "list", data := .seq (its.set j u).toArray n } := by
  simp [Obj.mapSeq]
theorem Inv.lst {pins : List (Addr × Obj)} {σ : St} {H : Hp} {s : Shared} {p : Addr} {xs : List V} (I : Inv X pins σ H s) (h : H p = some (.lst xs)) :
    ∃ (its : List Value) (n : Nat), Vals xs its ∧ s.heap.get? p = some { cls := .type "list", data := .seq its.toArray n } ∧ xs.length ≤ sizeLine := by
  obtain ⟨z, its, n, r, e⟩ := I.hok p _ h
  exact ⟨its, n, r, e, z⟩
theorem Inv.lstUpd {pins : List (Addr × Obj)} {σ : St} {H : Hp} {s : Shared} {p : Addr} {xs ys : List V} {its its' : List Value} {n n' : Nat} {f : Obj → Obj} (I : Inv X pins σ H s) (h : H p = some (.lst xs))
    (ho : s.heap.get? p = some { cls := .type "list", data := .seq its.toArray n }) (hf : f { cls := .type "list", data := .seq its.toArray n } = { cls := .type "list", data := .seq its'.toArray n' }) (r : Vals ys its') (hz : ys.length ≤ sizeLine) (t : Nat) :
    Inv X pins σ (upd H p (.lst ys)) { s with heap := s.heap.update p f, toks := t } := by
  have e : (s.heap.update p f).get? p = some { cls := .type "list", data := .seq its'.toArray n' } := by
    rw [Heap.get?_update_self f ho (by rw [hf] <;> rfl), hf]
  refine I.write (x := p) (e := p) (by rw [h]; trivial) (.inl rfl) (fun b u hb q => (Heap.get?_update_other _ _ (Ne.symm hb)).trans q) ⟨_, e⟩ ?_
  exact ⟨hz, its', n', r, e⟩
def rSetL : V → V → V → Hp → (Hp → Prop) → Prop := fun o i v H Q => ∃ p xs k j, o = .ref p ∧ i = .int k ∧ H p = some (.lst xs) ∧ ixN xs.length k = some j ∧ Q (upd H p (.lst (xs.set j v)))
theorem set_list : PSet X rSetL := by
  intro pins s σ H o i v ov iv u Q I ro ri rv h
  obtain ⟨p, xs, k, j, rfl, rfl, hp, hj, q⟩ := h
  cases ro
  obtain ⟨t, rfl⟩ := ri
  obtain ⟨its, n, r, ho, hz⟩ := I.lst hp
  obtain ⟨h1, h2, h3, h4⟩ := ixN_seq hj
  have hl := r.length
  have hn := line63
  have I' : Inv X pins σ (upd H p (.lst (xs.set j v))) { s with heap := s.heap.update p (Obj.mapSeq (·.setIfInBounds j u)) } :=
    I.lstUpd hp ho (mapSeq_set its n j u) (r.set rv j) (by rw [List.length_set]; exact hz) s.toks
  by_cases h0 : 0 ≤ k
  · have hk : k.toNat = j := by
      rw [seqIndex_of h0 h4] at h1
      exact Option.some.inj h1
    exact PySem.W.ki_setAt ho h0 (by omega) (by rw [List.size_toArray, ← hl]; exact h4) (by rw [hk]; exact ⟨_, I', q⟩)
  · have hk : (k + (its.toArray.size : Int)).toNat = j := by
      rw [seqIndex_neg (by omega) h3] at h1
      rw [List.size_toArray, ← hl]
      exact Option.some.inj h1
    exact PySem.W.ki_setBack ho (by omega) (by rw [List.size_toArray, ← hl]; exact h3) (by omega) (by rw [hk]; exact ⟨_, I', q⟩)
theorem slice_bounds (lo hi : Option Int) (n : Nat) : (sliceBounds lo hi none n).1 = ((HT.sIx n 0 lo : Nat) : Int) ∧ (sliceBounds lo hi none n).2.1 = ((HT.sIx n n hi : Nat) : Int) ∧ (sliceBounds lo hi none n).2.2 = 1 := by
  refine ⟨?_, ?_, rfl⟩
  · cases lo with
    | none => simp [sliceBounds, HT.sIx]
    | some i =>
      simp only [sliceBounds, HT.sIx, Option.getD_none, show (1 : Int) > 0 by decide, if_true]
      by_cases h : i < 0
      · simp only [h, if_true] <;> omega
      · simp only [h, if_false] <;> omega
  · cases hi with
    | none => simp [sliceBounds, HT.sIx]
    | some i =>
      simp only [sliceBounds, HT.sIx, Option.getD_none, show (1 : Int) > 0 by decide, if_true]
      by_cases h : i < 0
      · simp only [h, if_true] <;> omega
      · simp only [h, if_false] <;> omega
theorem slicePick_cut (its : List Value) (lo hi : Option Int) : slicePick its.toArray lo hi none = ((its.drop (HT.sIx its.length 0 lo)).take (HT.sIx its.length its.length hi - HT.sIx its.length 0 lo)).toArray := by
  obtain ⟨h1, h2, h3⟩ := slice_bounds lo hi its.toArray.size
  unfold slicePick
  rw [h1, h2, h3]
  simp only [sliceRange_one, pick_run, List.size_toArray] <;> rfl
def rSlL (K : PySem.W.Frag) : V → Option Int → Option Int → Hp → VK → Prop := fun x lo hi H Q => ∃ a xs, x = .ref a ∧ SqL K H a xs ∧ ∀ p, H p = none → Q (.ref p) (upd H p (.lst (cutV xs lo hi)))
theorem sl_list : SlR X (rSlL X.K) := by
  intro pins s σ H x v vl vu lo hi sl Q I rx hs pl pu h
  obtain ⟨a, xs, rfl, hx, q⟩ := h
  cases rx
  obtain ⟨its, r, ht, hz⟩ := I.list hx
  have hlen := r.length
  refine ⟨"list", _, slot_list_getitem.lookup, ht.isList.typeIs, ?_⟩
  refine wpAny_getItem_list_slice ht.isList hs pl pu .none (by simp) ?_ (by rw [List.size_toArray] <;> omega)
  rw [slicePick_cut, ← hlen]
  refine ⟨.ref s.heap.objs.size, _, I.laid (t' := s.toks) (o := .lst (cutV xs lo hi)) (fun b ob q => Heap.get?_push_of_some _ q) (Nat.le_refl _) ?_, rfl, q _ (I.hok.fresh (Nat.le_refl _))⟩
  exact ⟨Nat.le_trans (cutV_length xs lo hi) hz, _, 0, (r.drop (HT.sIx xs.length 0 lo)).take (HT.sIx xs.length xs.length hi - HT.sIx xs.length 0 lo), Heap.get?_push_size _ rfl⟩
def flatV : V → Bool
  | .non => true
  | .bl _ => true
  | .int _ => true
  | .str _ => true
  | _ => false
def eqV : V → V → Bool
  | .non, .non => true
  | .bl a, .bl b => a == b
  | .bl a, .int b => (if a then 1 else 0) == b
  | .int a, .bl b => a == (if b then 1 else 0)
  | .int a, .int b => a == b
  | .str a, .str b => a == b
  | _, _ => false
theorem eqAt_V {A : Around} {s : Shared} {y x : V} {u v : Value} (ry : RelV y u) (rx : RelV x v) (fy : flatV y = true) (fx : flatV x = true) : SeqAt.EqAt A s u v (eqV y x) := by
  cases y with
  | non =>
    cases ry
    cases x with
    | non => cases rx; exact SeqAt.EqAt.same _
    | bl b => cases rx; exact SeqAt.EqAt.none_bool b
    | int b => obtain ⟨t, rfl⟩ := rx; exact SeqAt.EqAt.none_int b t
    | str b => obtain ⟨t, rfl⟩ := rx; exact SeqAt.EqAt.none_str b t
    | _ => exact absurd (show false = true from fx) Bool.false_ne_true
  | bl a =>
    cases ry
    cases x with
    | non => cases rx; exact SeqAt.EqAt.bool_none a
    | bl b => cases rx; exact SeqAt.EqAt.bool_bool a b
    | int b => obtain ⟨t, rfl⟩ := rx; exact SeqAt.EqAt.bool_int a b t
    | str b => obtain ⟨t, rfl⟩ := rx; exact SeqAt.EqAt.bool_str a b t
    | _ => exact absurd (show false = true from fx) Bool.false_ne_true
  | int a =>
    obtain ⟨t', rfl⟩ := ry
    cases x with
    | non => cases rx; exact SeqAt.EqAt.int_none a t'
    | bl b => cases rx; exact SeqAt.EqAt.int_bool a t' b
    | int b => obtain ⟨t, rfl⟩ := rx; exact SeqAt.EqAt.int_int a t' b t
    | str b => obtain ⟨t, rfl⟩ := rx; exact SeqAt.EqAt.int_str a t' b t
    | _ => exact absurd (show false = true from fx) Bool.false_ne_true
  | str a =>
    obtain ⟨t', rfl⟩ := ry
    cases x with
    | non => cases rx; exact SeqAt.EqAt.str_none a t'
    | bl b => cases rx; exact SeqAt.EqAt.str_bool a t' b
    | int b => obtain ⟨t, rfl⟩ := rx; exact SeqAt.EqAt.str_int a t' b t
    | str b => obtain ⟨t, rfl⟩ := rx; exact SeqAt.EqAt.str_str a t' b t
    | _ => exact absurd (show false = true from fx) Bool.false_ne_true
  | _ => exact absurd (show false = true from fy) Bool.false_ne_true
def eqU (x : V) (u : Value) : Bool := match u with
  | .none => eqV .non x
  | .bool b => eqV (.bl b) x
  | .int i _ => eqV (.int i) x
  | .str z _ => eqV (.str z) x
  | _ => false
theorem eqU_of {x y : V} {u : Value} (r : RelV y u) (f : flatV y = true) : eqU x u = eqV y x := by
  cases y with
  | non => cases r; rfl
  | bl b => cases r; rfl
  | int i => obtain ⟨t, rfl⟩ := r; rfl
  | str z => obtain ⟨t, rfl⟩ := r; rfl
  | _ => exact absurd (show false = true from f) Bool.false_ne_true
theorem any_eqU {x : V} : ∀ {xs : List V} {us : List Value}, Vals xs us → xs.all flatV = true → us.any (eqU x) = xs.any fun y => eqV y x
  | _, _, .nil, _ => rfl
  | y :: xs, u :: us, .cons r t, f => by
    rw [List.all_cons, Bool.and_eq_true] at f
    rw [List.any_cons, List.any_cons, eqU_of r f.1, any_eqU t f.2]
theorem mem_eqAt {A : Around} {s : Shared} {x : V} {v : Value} (rx : RelV x v) (fx : flatV x = true) : ∀ {xs : List V} {us : List Value}, Vals xs us → xs.all flatV = true → ∀ u ∈ us, SeqAt.EqAt A s u v (eqU x u)
  | _, _, .nil, _ => fun u hu => by cases hu
  | y :: xs, u :: us, .cons r t, f => fun u' hu => by
    rw [List.all_cons, Bool.and_eq_true] at f
    rcases List.mem_cons.mp hu with rfl | hu
    · rw [eqU_of r f.1]; exact eqAt_V r rx f.1 fx
    · exact mem_eqAt rx fx t f.2 u' hu
def inV (x : V) (xs : List V) : Bool := xs.any fun y => eqV y x
def rIn (K : PySem.W.Frag) (neg : Bool) : R2 := fun x y H Q => ∃ p xs, y = .ref p ∧ (SqL K H p xs ∨ SqT K H p xs) ∧ flatV x = true ∧ xs.all flatV = true ∧ Q (.bl (if neg then !inV x xs else inV x xs)) H
theorem op_in_seq : OpR X (compareOp .In) (rIn X.K false) := by
  intro pins s σ H x y v u Q I rx ry h
  obtain ⟨p, xs, rfl, hq, fx, fs, q⟩ := h
  cases ry
  rcases hq with hq | hq
  · obtain ⟨its, r, pl, hz⟩ := I.list hq
    refine SeqAt.in_listAt (eqU x) pl.isList (fun w hw => mem_eqAt rx fx r fs w (by simpa using hw)) ⟨.bl _, H, I, rfl, ?_⟩
    rw [show its.toArray.any (eqU x) = its.any (eqU x) by simp, any_eqU r fs]
    exact q
  · obtain ⟨its, r, pl, hz⟩ := I.tuple hq
    refine SeqAt.in_tupleAt (eqU x) pl (fun w hw => mem_eqAt rx fx r fs w (by simpa using hw)) ⟨.bl _, H, I, rfl, ?_⟩
    rw [show its.toArray.any (eqU x) = its.any (eqU x) by simp, any_eqU r fs]
    exact q
theorem call_len_seq : CallR X (.builtin "len") (fun xs H Q => ∃ p ys, xs = [.ref p] ∧ (SqL X.K H p ys ∨ SqT X.K H p ys) ∧ Q (.int ys.length) H) := by
  intro pins s σ H xs us Q I r h
  obtain ⟨p, ys, rfl, hq, q⟩ := h
  obtain ⟨u, rfl, rx⟩ := vals1 r
  cases rx
  have hn := line63
  rcases hq with hq | hq
  · obtain ⟨its, r', pl, hz⟩ := I.list hq
    have hlen := r'.length
    exact Calls.call_len_list pl.isList (by simp only [List.size_toArray] <;> omega) ⟨.int ys.length, H, I.tok _, ⟨s.toks + 1, by rw [List.size_toArray, hlen]⟩, q⟩
  · obtain ⟨its, r', pl, hz⟩ := I.tuple hq
    have hlen := r'.length
    exact len_tuple pl (by simp only [List.size_toArray] <;> omega) ⟨.int ys.length, H, I.tok _, ⟨s.toks + 1, by rw [List.size_toArray, hlen]⟩, q⟩
theorem call_len_str : CallR X (.builtin "len") (fun xs H Q => ∃ z, xs = [.str z] ∧ z.length ≤ sizeLine ∧ Q (.int z.length) H) := by
  intro pins s σ H xs us Q I r h
  obtain ⟨z, rfl, hz, q⟩ := h
  obtain ⟨u, rfl, t, rfl⟩ := vals1 r
  have hn := line63
  exact len_str (by omega) ⟨.int z.length, H, I.tok _, ⟨_, rfl⟩, q⟩
theorem call_list_of : CallR X (.type "list") (fun xs H Q => ∃ p ys, xs = [.ref p] ∧ (SqL X.K H p ys ∨ SqT X.K H p ys) ∧ ∀ l, H l = none → Q (.ref l) (upd H l (.lst ys))) := by
  intro pins s σ H xs us Q I r h
  obtain ⟨p, ys, rfl, hq, q⟩ := h
  obtain ⟨u, rfl, rx⟩ := vals1 r
  cases rx
  have fin : ∀ (its : List Value), Vals ys its → ys.length ≤ sizeLine → ∀ (h' : Heap) (c' : Nat), (∀ b o', s.heap.get? b = some o' → h'.get? b = some o') →
      h'.get? s.heap.objs.size = some { cls := .type "list", dict := none, data := .seq its.toArray c', slots := #[] } → EP X pins σ Q (.ref s.heap.objs.size) { s with heap := h' } := fun its r' hz h' c' kp e =>
    ⟨.ref s.heap.objs.size, _, I.laid (t' := s.toks) kp (Nat.le_refl _) (show ObjOk X.prog X.w _ h' _ (.lst ys) from ⟨hz, its, c', r', e⟩), rfl, q _ (I.hok.fresh (Nat.le_refl _))⟩
  rcases hq with hq | hq
  · obtain ⟨its, r', pl, hz⟩ := I.list hq
    have hlen := r'.length
    obtain ⟨o, ho, hc, n, hd⟩ := pl.isList
    exact call_list_seq p (.inl rfl) ho hc hd (fun h' c' kp e => fin its r' hz h' c' kp e) (by simp only [List.size_toArray] <;> omega)
  · obtain ⟨its, r', pl, hz⟩ := I.tuple hq
    have hlen := r'.length
    obtain ⟨o, ho, hc, n, hd⟩ := pl
    exact call_list_seq p (.inr rfl) ho hc hd (fun h' c' kp e => fin its r' hz h' c' kp e) (by simp only [List.size_toArray] <;> omega)
theorem call_tuple_of : CallR X (.type "tuple") (fun xs H Q => ∃ p ys, xs = [.ref p] ∧ ((SqL X.K H p ys ∧ ∀ l, H l = none → Q (.ref l) (upd H l (.tup ys))) ∨ (SqT X.K H p ys ∧ Q (.ref p) H))) := by
  intro pins s σ H xs us Q I r h
  obtain ⟨p, ys, rfl, h⟩ := h
  obtain ⟨u, rfl, rx⟩ := vals1 r
  cases rx
  rcases h with ⟨hq, q⟩ | ⟨hq, q⟩
  · obtain ⟨its, r', pl, hz⟩ := I.list hq
    have hlen := r'.length
    refine call_tuple_list pl.isList (fun h' kp => ?_) (by simp only [List.size_toArray] <;> omega)
    have I1 : Inv X pins σ H { s with heap := h' } := I.kept (t' := s.toks) kp
    have I2 : Inv X pins σ (upd H h'.objs.size (.tup ys)) { s with heap := h'.push { cls := .type "tuple", data := .seq its.toArray } } :=
      I1.laid (t' := s.toks) (fun b o e => Heap.get?_push_of_some _ e) (Nat.le_refl _) (show ObjOk X.prog X.w _ _ _ (.tup ys) from ⟨hz, its, r', IsTup.new _ _⟩)
    exact ⟨.ref h'.objs.size, _, I2, rfl, q _ (I1.hok.fresh (Nat.le_refl _))⟩
  · obtain ⟨its, r', pl, hz⟩ := I.tuple hq
    exact call_tuple_same pl ⟨.ref p, H, I, rfl, q⟩
def tyV (K : PySem.W.Frag) (T : String) (x : V) (H : Hp) : Prop := match x with
  | .str _ => T = "str"
  | .int _ => T = "int"
  | .ref p => (T = "list" ∧ ∃ xs, SqL K H p xs) ∨ (T = "tuple" ∧ ∃ o, K.lookup p = some o ∧ o.cls = .type "tuple" ∧ o.dict = none) ∨
      (T = "dict" ∧ ((∃ kvs, H p = some (.dK kvs)) ∨ ∃ kvs, H p = some (.dT kvs))) ∨ (T = "set" ∧ ∃ S n, H p = some (.set S n))
  | _ => False
theorem tyV_is {pins : List (Addr × Obj)} {σ : St} {H : Hp} {s : Shared} {T : String} {x : V} {v : Value} (I : Inv X pins σ H s) (r : RelV x v) (ty : tyV X.K T x H) :
    s.TypeIs v T ∧ ∀ a, v = .ref a → ∃ ob, s.heap.get? a = some ob ∧ ob.dict = none := by
  cases x with
  | str z =>
    obtain ⟨t, rfl⟩ := r
    cases (show T = "str" from ty)
    exact ⟨typeIs_str s z t, fun _ e => nomatch e⟩
  | int i =>
    obtain ⟨t, rfl⟩ := r
    cases (show T = "int" from ty)
    exact ⟨typeIs_int s i t, fun _ e => nomatch e⟩
  | ref p =>
    cases r
    rcases ty with ⟨rfl, xs, hq⟩ | ⟨rfl, o, hk, hc, hd⟩ | ⟨rfl, hk⟩ | ⟨rfl, S, n, hk⟩
    · obtain ⟨its, _, pl, _⟩ := I.list hq
      refine ⟨pl.isList.typeIs, fun a e => ?_⟩
      cases e
      obtain ⟨o, n, e, c, hd, _⟩ := pl
      exact ⟨o, e, hd⟩
    · refine ⟨⟨o, I.kIn p o hk, hc⟩, fun a e => ?_⟩
      cases e
      exact ⟨o, I.kIn _ o hk, hd⟩
    · have z : ∃ o, s.heap.get? p = some o ∧ o.ExactDict := by
        rcases hk with ⟨kvs, hk⟩ | ⟨kvs, hk⟩
        · obtain ⟨_, _, _, _, o, _, _, e, ex, _⟩ := I.hok p _ hk
          exact ⟨o, e, ex⟩
        · obtain ⟨_, _, _, _, o, _, _, e, ex, _⟩ := I.hok p _ hk
          exact ⟨o, e, ex⟩
      obtain ⟨o, e, ex⟩ := z
      refine ⟨⟨o, e, ex.1⟩, fun a e2 => ?_⟩
      cases e2
      exact ⟨o, e, ex.2.1⟩
    · obtain ⟨o, _, _, _, e, ex, _⟩ := I.hok p _ hk
      refine ⟨⟨o, e, ex.1⟩, fun a e2 => ?_⟩
      cases e2
      exact ⟨o, e, ex.2.1⟩
  | _ => exact False.elim ty
def tBM0 (K : PySem.W.Frag) (T : String) (r : V → List V → Hp → VK → Prop) (to : TE) : TE := fun σ H Q => to σ H fun x H1 => tyV K T x H1 ∧ r x [] H1 Q
def tBM (K : PySem.W.Frag) (T : String) (r : V → List V → Hp → VK → Prop) (to : TE) (t : TA) : TE := fun σ H Q => to σ H fun x H1 => tyV K T x H1 ∧ t σ H1 fun xs H2 => r x xs H2 Q
variable {o e : Expr} {es : List Expr} {to : TE} {t : TA} {name : Str} {apos cpos : Pos} {T id : String} {r : V → List V → Hp → VK → Prop}
theorem pe_bm (pa : PlainAttrs T) (slot : Slot T name id) (hty : typeOf (.builtin id) = pure (.type "method_descriptor")) (hm : MtR X id r) (ho : PE X o to) (ha : PA X (e :: es) t)
    (hbase : attributeBase o name X.env (eval o X.env) = eval o X.env := by rfl)
    (hfew : ((backTo cpos (starEach (e :: es) X.env)).all (fun x => !x.1) && (backToKw cpos (keywordEach [] X.env)).all (fun x => x.1.isSome)
      && decide ((e :: es).length + ([] : List Keyword).length + (if ([] : List Keyword).isEmpty then 0 else 1) < 30)) = true := by rfl)
    (hline : (apos.endLine == cpos.line) = true := by rfl) (hs : starEach (e :: es) X.env = (false, eval e X.env) :: starEach es X.env := by rfl) (hplain : (backTo cpos (starEach es X.env)).any (·.1) = false := by rfl) :
    PE X (.Call (.Attribute o name apos) (e :: es) [] cpos) (tBM X.K T r to t) := by
  intro pins s σ H Q I h
  refine wpAny_Call_method_late hbase hfew hline rfl (thn (ho pins s σ H _ I h) fun v s1 ⟨x, H1, I1, r1, ty, q1⟩ => ?_)
  obtain ⟨h1, h2⟩ := tyV_is I1 r1 ty
  refine ⟨T, id, pa, slot, hty, h1, h2, ?_⟩
  have hA := ha cpos pins s1 σ H1 _ I1 q1
  rw [hs] at hA ⊢
  refine Calls.callWith_builtin (by show (false || (backTo cpos (starEach es X.env)).any (·.1)) = false; rw [hplain] <;> rfl) (Calls.evalArgs_plain ?_)
  exact thn hA fun us s2 ⟨vs, H2, I2, r2, q2⟩ => hm pins s2 σ H2 x vs v us Q I2 r1 r2 q2
end
end L2
namespace L2
open PySem PySem.Spec PyProof.Rows
def MtM (X : Cx) (id : String) (r : V → List V → Hp → VK → Prop) : Prop :=
  ∀ (pins : List (Addr × Obj)) (s : Shared) (σ : St) (H : Hp) (x : V) (xs : List V) (v : Value) (us : List Value) (Q : VK), Inv X pins σ H s → RelV x v → Vals xs us → r x xs H Q →
    wpAny (model X.prog X.w) X.A (call (.builtin id) (v :: us)) (EP X pins σ Q) X.xe s
theorem Vals.one : ∀ {x : V} {us : List Value}, Vals [x] us → ∃ u, us = [u] ∧ RelV x u
  | _, _, .cons r .nil => ⟨_, rfl, r⟩
theorem Vals.two : ∀ {x y : V} {us : List Value}, Vals [x, y] us → ∃ u v, us = [u, v] ∧ RelV x u ∧ RelV y v
  | _, _, _, .cons r (.cons q .nil) => ⟨_, _, rfl, r, q⟩
theorem Vals.zero : ∀ {us : List Value}, Vals [] us → us = []
  | _, .nil => rfl
theorem Vals.eraseIdx : ∀ {xs : List V} {us : List Value} (i : Nat), Vals xs us → Vals (xs.eraseIdx i) (us.eraseIdx i)
  | _, _, _, .nil => .nil
  | _, _, 0, .cons _ t => t
  | _, _, i + 1, .cons r t => .cons r (Vals.eraseIdx i t)
theorem Vals.rep {xs : List V} {us : List Value} (h : Vals xs us) : ∀ k : Nat, Vals (List.replicate k xs).flatten (List.replicate k us).flatten
  | 0 => .nil
  | k + 1 => by
    rw [List.replicate_succ, List.replicate_succ, List.flatten_cons, List.flatten_cons]
    exact Vals.append h (Vals.rep h k)
theorem len_erase {α : Type} : ∀ (l : List α) (i : Nat), (l.eraseIdx i).length ≤ l.length
  | [], _ => Nat.le_refl _
  | _ :: _, 0 => Nat.le_succ _
  | _ :: r, i + 1 => Nat.succ_le_succ (len_erase r i)
theorem foldl_rep (its : List Value) : ∀ (k : Nat) (acc : List Value),
    List.foldl (fun x1 x2 => x1 ++ x2) acc.toArray (List.replicate k its.toArray) = (acc ++ (List.replicate k its).flatten).toArray
  | 0, acc => by simp
  | k + 1, acc => by
    have e : acc.toArray ++ its.toArray = (acc ++ its).toArray := by simp
    have e2 : (acc ++ its) ++ (List.replicate k its).flatten = acc ++ (List.replicate (k + 1) its).flatten := by
      rw [List.replicate_succ, List.flatten_cons, List.append_assoc]
    rw [← e2, ← foldl_rep its k (acc ++ its), ← e, List.replicate_succ, List.foldl_cons]
section
variable {X : Cx} {pins : List (Addr × Obj)} {σ : St} {H : Hp} {s : Shared} {l b : Addr} {xs ys zs : List V}
theorem Inv.lset {its its' : List Value} {n : Nat} {f : Array Value → Array Value} {t' : Nat} (I : Inv X pins σ H s) (hH : H l = some (.lst xs))
    (e : s.heap.get? l = some { cls := .type "list", data := .seq its.toArray n }) (hf : f its.toArray = its'.toArray) (hv : Vals ys its') (hz : ys.length ≤ sizeLine) :
    Inv X pins σ (upd H l (.lst ys)) { s with heap := s.heap.update l (Obj.mapSeq f), toks := t' } := by
  have q := PySem.IsL.update e f
  rw [hf] at q
  refine I.write (x := l) (e := l) (by rw [hH]; exact trivial) (.inl rfl) (fun b' u hb hu => (Heap.get?_update_other s.heap (Obj.mapSeq f) (Ne.symm hb)).trans hu) ⟨_, q⟩ ?_
  exact ⟨hz, its', _, hv, q⟩
theorem Inv.lnew {its : List Value} {t' : Nat} (I : Inv X pins σ H s) (hv : Vals ys its) (hz : ys.length ≤ sizeLine) :
    Inv X pins σ (upd H s.heap.objs.size (.lst ys)) { s with heap := s.heap.push { cls := .type "list", data := .seq its.toArray }, toks := t' } :=
  I.laid (fun _ _ q => Heap.get?_push_of_some _ q) (Nat.le_refl _) ⟨hz, its, 0, hv, Heap.get?_push_size _ rfl⟩
theorem Inv.fresh (I : Inv X pins σ H s) : H s.heap.objs.size = none := I.hok.fresh (Nat.le_refl _)
theorem Inv.lstM (I : Inv X pins σ H s) (hH : H l = some (.lst xs)) : xs.length ≤ sizeLine ∧ ∃ (its : List Value) (n : Nat), Vals xs its ∧ xs.length = its.length ∧ s.heap.get? l = some { cls := .type "list", data := .seq its.toArray n } := by
  obtain ⟨z, its, n, r, e⟩ := I.hok l _ hH
  exact ⟨z, its, n, r, r.length, e⟩
theorem notLongL {n : Nat} (h : n ≤ sizeLine) : Builtin.List.listTooLong n = false := by
  unfold Builtin.List.listTooLong
  exact decide_eq_false (by omega)
end
section
variable {X : Cx}
def rAppend : V → List V → Hp → VK → Prop := fun x vs H Q => ∃ l xs y, x = .ref l ∧ vs = [y] ∧ H l = some (.lst xs) ∧ xs.length < sizeLine ∧ Q .non (upd H l (.lst (xs ++ [y])))
theorem mt_append : MtM X "list.append" rAppend := by
  intro pins s σ H x vs v us Q I rx rv h
  obtain ⟨l, xs, y, rfl, rfl, hH, hz, q⟩ := h
  cases rx
  obtain ⟨u, rfl, ru⟩ := rv.one
  obtain ⟨z, its, n, r, hl, e⟩ := I.lstM hH
  refine call_meets F.slot_list_append ⟨_, e, rfl⟩ F.entry_list_append (F.args_list_append_2 _ _) (PySem.list_append l its.toArray n u (by rw [List.size_toArray]; omega)) ⟨e, ?_⟩
  refine ⟨.non, _, I.lset (its' := its ++ [u]) hH e (by simp) (r.append (.cons ru .nil)) ?_, rfl, q⟩
  rw [List.length_append, List.length_singleton]
  omega
def rExtend : V → List V → Hp → VK → Prop := fun x vs H Q => ∃ l b xs zs, x = .ref l ∧ vs = [.ref b] ∧ H l = some (.lst xs) ∧ H b = some (.lst zs) ∧ xs.length + zs.length ≤ sizeLine ∧ Q .non (upd H l (.lst (xs ++ zs)))
theorem mt_extend : MtM X "list.extend" rExtend := by
  intro pins s σ H x vs v us Q I rx rv h
  obtain ⟨l, b, xs, zs, rfl, rfl, hH, hB, hz, q⟩ := h
  cases rx
  obtain ⟨u, rfl, ru⟩ := rv.one
  cases ru
  obtain ⟨z, its, n, r, hl, e⟩ := I.lstM hH
  obtain ⟨z2, its2, n2, r2, hl2, e2⟩ := I.lstM hB
  have hsz : its.toArray.size + its2.toArray.size ≤ sizeLine := by rw [List.size_toArray, List.size_toArray]; omega
  have hlong : ¬ (!its.toArray.isEmpty && Builtin.List.listTooLong (its.toArray.size + its2.toArray.size)) = true := by
    rw [notLongL hsz, Bool.and_false]
    exact Bool.false_ne_true
  refine call_meets F.slot_list_extend ⟨_, e, rfl⟩ F.entry_list_extend (F.args_list_extend_2 _ _)
    (AutoSeq1.list_extend_list_list_0 l its.toArray n b its2.toArray n2 hlong (by rw [List.size_toArray]; omega) (by omega)) ⟨e, e2, ?_⟩
  refine ⟨.non, _, I.lset (its' := its ++ its2) hH e (by simp) (r.append r2) ?_, rfl, q⟩
  rw [List.length_append]
  omega
def rPopAt : V → List V → Hp → VK → Prop := fun x vs H Q => ∃ l xs i k y, x = .ref l ∧ vs = [.int i] ∧ H l = some (.lst xs) ∧ -(2 ^ 63) ≤ i ∧ i < 2 ^ 63 ∧ seqIndex? i xs.length = some k ∧ xs[k]? = some y ∧ Q y (upd H l (.lst (xs.eraseIdx k)))
theorem mt_popAt : MtM X "list.pop" rPopAt := by
  intro pins s σ H x vs v us Q I rx rv h
  obtain ⟨l, xs, i, k, y, rfl, rfl, hH, h1, h2, hk, hy, q⟩ := h
  cases rx
  obtain ⟨u, rfl, ru⟩ := rv.one
  obtain ⟨t, rfl⟩ := ru
  obtain ⟨z, its, n, r, hl, e⟩ := I.lstM hH
  obtain ⟨w, hw, rw'⟩ := r.get hy
  refine call_meets F.slot_list_pop ⟨_, e, rfl⟩ F.entry_list_pop (F.args_list_pop_2 _ _)
    (MeetsSeq.list_pop_at l its.toArray n i t k w (fitsIndex_both h1 h2) (by rw [List.size_toArray, ← hl]; exact hk) (by rw [← Array.getElem?_toList]; exact hw) (by rw [List.size_toArray]; omega)) ⟨e, ?_⟩
  refine ⟨y, _, I.lset (its' := its.eraseIdx k) hH e ?_ (r.eraseIdx k) ?_, rw', q⟩
  · show its.toArray.eraseIdxIfInBounds k = (its.eraseIdx k).toArray
    rw [List.eraseIdxIfInBounds_toArray]
  · have := len_erase xs k
    omega
def rCat : R2 := fun x y H Q => ∃ l b xs zs, x = .ref l ∧ y = .ref b ∧ H l = some (.lst xs) ∧ H b = some (.lst zs) ∧ xs.length + zs.length ≤ sizeLine ∧ ∀ p, H p = none → Q (.ref p) (upd H p (.lst (xs ++ zs)))
theorem op_cat : OpR X (binaryOp .Add) rCat := by
  intro pins s σ H x y v u Q I rx ry h
  obtain ⟨l, b, xs, zs, rfl, rfl, hH, hB, hz, q⟩ := h
  cases rx
  cases ry
  obtain ⟨z, its, n, r, hl, e⟩ := I.lstM hH
  obtain ⟨z2, its2, n2, r2, hl2, e2⟩ := I.lstM hB
  refine PySem.P.add_list e e2 ?_ (by rw [List.size_toArray, List.size_toArray]; omega)
  have ea : its.toArray ++ its2.toArray = (its ++ its2).toArray := by simp
  rw [ea]
  exact ⟨.ref _, _, I.lnew (t' := s.toks) (r.append r2) (by rw [List.length_append]; omega), rfl, q _ I.fresh⟩
def rRep : R2 := fun x y H Q => ∃ l k xs, x = .ref l ∧ y = .int k ∧ H l = some (.lst xs) ∧ -(2 ^ 63) ≤ k ∧ k < 2 ^ 63 ∧ xs.length * k.toNat ≤ sizeLine ∧
  ∀ p, H p = none → Q (.ref p) (upd H p (.lst (List.replicate k.toNat xs).flatten))
theorem len_rep {α : Type} (xs : List α) (k : Nat) : (List.replicate k xs).flatten.length = k * xs.length := by
  induction k with
  | zero => simp
  | succ k ih => rw [List.replicate_succ, List.flatten_cons, List.length_append, ih, Nat.succ_mul, Nat.add_comm]
theorem op_rep : OpR X (binaryOp .Mult) rRep := by
  intro pins s σ H x y v u Q I rx ry h
  obtain ⟨l, k, xs, rfl, rfl, hH, h1, h2, hz, q⟩ := h
  cases rx
  obtain ⟨t, rfl⟩ := ry
  obtain ⟨z, its, n, r, hl, e⟩ := I.lstM hH
  have hlen : its.toArray.size * k.toNat ≤ sizeLine := by rw [List.size_toArray, ← hl]; exact hz
  have hcap : ¬ its.toArray.size * k.toNat > (2 ^ 63 - 1) / 8 := by
    have : (sizeLine : Nat) ≤ (2 ^ 63 - 1) / 8 := by decide
    omega
  have hfit : ¬ (!Builtin.List.listFitsIndex k) = true := by
    rw [fitsIndex_both h1 h2]
    exact Bool.false_ne_true
  have hlong : ¬ Builtin.List.listTooLong (its.toArray.size * k.toNat) = true := by
    rw [notLongL hlen]
    exact Bool.false_ne_true
  have hnew : List.foldl (fun x1 x2 => x1 ++ x2) #[] (List.replicate (if its.toArray.isEmpty = true then 0 else k.toNat) its.toArray) = (List.replicate k.toNat its).flatten.toArray := by
    have f0 : ∀ m : Nat, List.foldl (fun x1 x2 => x1 ++ x2) #[] (List.replicate m its.toArray) = (List.replicate m its).flatten.toArray := fun m => by
      have := foldl_rep its m []
      rw [List.nil_append] at this
      exact this
    rw [f0]
    cases its with
    | nil => simp
    | cons a r' => rw [if_neg (by simp)]
  refine wpAny_binaryOp_repeat_ref (T := "list") (U := "int") (by decide) ⟨_, e, rfl⟩ (fun s' => typeIs_int s' k t) noFill_list_mul F.fills_int_mul F.slot_int_rmul repeat_list F.slot_int_index.lookup
    (call_meets F.slot_int_rmul (typeIs_int s k t) F.entry_int_rmul (F.args_int_rmul_2 _ _) (int___rmul___int_list k t l its.toArray n)
      ⟨e, rfl, ⟨_, e, rfl⟩, call_meets F.slot_list_mul ⟨_, e, rfl⟩ F.entry_list_mul (F.args_list_mul_2 _ _) (AutoListH.list___mul___list_int_3 l its.toArray n k t hfit hcap hlong) ⟨e, ?_⟩⟩)
  rw [hnew]
  exact ⟨.ref _, _, I.lnew (t' := s.toks) (r.rep k.toNat) (by rw [len_rep, Nat.mul_comm]; exact hz), rfl, q _ I.fresh⟩
end
section
variable {prog : Program} {w : World} {A : Around} {E : Value → Shared → Prop} {s : Shared}
end
section
variable {X : Cx}
end
end L2
namespace Att
open PySem PySem.W PySem.Calls PyProof.Rows
theorem ints_of_wellAll {P : Params} {h : Heap} : ∀ (ns : List Int) (vs : List Value), WellAll P h vs (ns.map WData.int) → IntsAre vs ns := by
  intro ns
  induction ns with
  | nil =>
    intro vs w
    rw [List.map_nil] at w
    cases w
    exact .nil
  | cons n ns ih =>
    intro vs w
    rw [List.map_cons] at w
    cases w with
    | cons a b =>
      cases a
      exact .cons _ _ (ih _ b)
theorem script_of {l : OpenLaw} {n : Nat} (hn : l.most = some n) {P : Params} {h : Heap} {args : List WData} {vals : List Value}
    (hpre : l.row.toRowW.claim.pre args = true) (hwl : WellAll P h vals args) :
    ∃ a vs ns, vals = [Value.ref a] ∧ args = [WData.list (ns.map WData.int)] ∧ h.get? a = some { cls := .type "list", data := .seq vs.toArray } ∧ IntsAre vs ns ∧ ns.length ≤ n := by
  have hsh : WShape.hasAll [] args [.list .int] = true := (pre_splitW hpre).1
  have hc : l.pre.holds [] { args := args } = true := (pre_splitW hpre).2
  obtain ⟨d, r, rfl, h1, h2⟩ := hasAllW_cons hsh
  obtain rfl := hasAllW_nil h2
  obtain ⟨xs, rfl, h3⟩ := hasW_list h1
  obtain ⟨ns, rfl⟩ := items_int h3
  have hlen : ns.length ≤ n := by
    unfold OpenLaw.pre at hc
    have h4 : (WTm.not (.lt (.lit (.int (n : Int))) (.len (.arg 0)))).holds [] { args := [.list (ns.map .int)] } = true := by
      have h4 := (holds_andW hc).1
      rw [hn] at h4
      exact h4
    have h5 := condW_of h4 (w_not (w_lt w_lit (w_len_list (w_arg rfl))))
    rw [List.length_map] at h5
    refine Nat.le_of_not_lt fun q => ?_
    have q' : (n : Int) < ((ns.length : Nat) : Int) := by omega
    first
      | (rw [decide_eq_true q'] at h5; exact absurd h5 (by decide))
      | (simp at h5; omega)
  cases hwl with
  | cons w1 w2 =>
    cases w2
    cases w1 with
    | list ho hall => exact ⟨_, _, ns, rfl, rfl, ho, ints_of_wellAll ns _ hall, hlen⟩
theorem post_true (l : OpenLaw) (args : List WData) : l.row.toRowW.claim.post args (.bool true) args = true :=
  postW_of (r := l.row.toRowW) (X := (true == true))
    (show WShape.has [] (.bool true) .bool = true by first | rfl | decide | simp [WShape.has, WShape.arms, WShape.armsAll])
    (show (WTm.eq .res (.lit (.bool true))).value [] { args := args, res := some (.bool true), after := args } = some (.bool (true == true)) from w_eq_bool (w_res rfl) w_lit) rfl
theorem attach_call {l : OpenLaw} {n : Nat} {q : Program} {loose : List Str} {XP : (Str → Option Value) → Heap → Prop} {YP : World → Heap → Prop} {d : DefRec}
    (hn : l.most = some n) (hdf : d.params.defaults = [])
    (call : ∀ (w : World) (s₀ s₁ : Shared) (mg mb : Str → Option Value) (fa : Addr) (o : Obj) (pm cd doc : Value) (a : Addr) (vs : List Value) (ns : List Int),
      Ground q loose [] XP w s₀ mg mb s₁.heap → YP w s₁.heap →
      s₁.heap.get? fa = some o → o.data = .func (docDef d.name d.params d.body d.scope pm cd doc) → s₁.heap.CodeRec cd d.name → mg d.name = some (.ref fa) →
      s₁.heap.get? a = some { cls := .type "list", data := .seq vs.toArray } → IntsAre vs ns → ns.length ≤ n → s₁.gens = #[] →
      codeAny (model l.prog w) callerA (.call (.ref fa) ⟨[.ref a], []⟩) (fun r s' => r = .ok (.ret (.bool true)) ∧ OldK s₁.heap s'.heap ∧ s'.os = s₁.os ∧ AllBare s'.gens) s₁) :
    WalkO q loose XP YP l.row.toRowW d [] (fun f vs => PySem.call f vs) := by
  intro w s₀ s₁ mg mb G Y fa o pm cd doc dV kV ho hd hcd hD hmg hg args vals as hpre hlay hrd hwl hlo
  obtain rfl : dV = .none := Dflts.none hD hdf
  obtain rfl : kV = .none := Dflts.noKw hD
  obtain ⟨a, vs, ns, rfl, rfl, hobj, hints, hlen⟩ := script_of hn hpre hwl
  refine enter_call (codeAny_mono (call w s₀ s₁ mg mb fa o pm cd doc a vs ns G Y ho (fd_plain hd) hcd hmg hobj hints hlen hg) fun r s' hq => ?_)
  obtain ⟨rfl, h2, h3, h4⟩ := hq
  exact ⟨.inl ⟨.bool true, .bool true, [], rfl, fun _ => rfl, .bool true, post_true l _, fun _ => ⟨List.Pairwise.nil, fun _ hm => (nomatch hm)⟩⟩, h2, h3, h4⟩
section
variable {prog : Program} {w : World} {A : Around} {E : Value → Shared → Prop} {s : Shared} {K : Frag}
end
end Att
namespace L2
open PySem PySem.Spec PyProof.Rows
theorem vals_ints : ∀ {vs : List Value} {ns : List Int}, IntsAre vs ns → Vals (ns.map V.int) vs
  | _, _, .nil => .nil
  | _, _, .cons n t h => .cons ⟨t, rfl⟩ (vals_ints h)
def Only (H : Hp) : Prop := ∀ b, H b = none ∨ ∃ o xs, H b = some (.frz o (.lst xs))
theorem law_call {P : Program} {w : World} {K : PySem.W.Frag} {mg mb : Str → Option Value} {CX : CXT} {k : Nat} {fa a : Addr} {fd : FuncData} {x : Str} {sp : Sp} {s₁ : Shared} {vs : List Value} {ns : List Int}
    (KX : K.In s₁.heap) (hns : s₁.heap.Ns mainGlobals mg) (hb : s₁.heap.Ns builtinsNs mb) (hbb : ∀ x : Str, x ≠ "__name__" → mb x = bootBuiltins x) (hlim : s₁.heap.NoLimit) (hg : s₁.gens = #[])
    (ha : s₁.heap.get? a = some { cls := .type "list", data := .seq vs.toArray }) (hi : IntsAre vs ns) (hl : ns.length ≤ sizeLine) (hr : Room k callerA)
    (F : ∀ base : Heap, K.In base → base.Ns mainGlobals mg → FnOk P w K mg base CX k fa fd [x] sp) (hbind : ∀ (s : Shared) (u : Value), BindsTo s fd ⟨[u], []⟩ [(x, u)])
    (hsp : ∀ H : Hp, Only H → SqL K H a (ns.map V.int) → sp [.ref a] H (fun v _ => v = .bl true) fun _ _ _ => False)
    (hCX : ∀ H e s', CX [] H s₁ (fun _ _ _ => False) e s' → False) :
    codeAny (model P w) callerA (.call (.ref fa) ⟨[.ref a], []⟩) (fun r s' => r = .ok (.ret (.bool true)) ∧ OldK s₁.heap s'.heap ∧ s'.os = s₁.os ∧ AllBare s'.gens) s₁ := by
  have rv := vals_ints hi
  have lenV := hi.length
  have core : ∀ H : Hp, Only H → SqL K H a (ns.map V.int) → HOk P w H s₁.heap → (∀ b, H b ≠ none → b = a) → (H a ≠ none → K.lookup a = none) →
      codeAny (model P w) callerA (.call (.ref fa) ⟨[.ref a], []⟩) (fun r s' => r = .ok (.ret (.bool true)) ∧ OldK s₁.heap s'.heap ∧ s'.os = s₁.os ∧ AllBare s'.gens) s₁ := by
    intro H hO hS hok hA hK
    have base_of : ∀ {b : Addr} {o : Obj}, s₁.heap.get? b = some o → H b = none → (hidT s₁.heap H).get? b = some o := fun e n => hidT_get e n
    have noA : ∀ {b : Addr} {o : Obj} {es : Array DictEntry} {ep : Nat}, s₁.heap.get? b = some o → o.data = .dict es ep → H b = none := fun {b o es ep} e d => by
      cases q : H b with
      | none => rfl
      | some u =>
        have e' : b = a := hA b (by rw [q]; simp)
        subst e'
        rw [ha] at e; cases e
        have d' : Data.seq vs.toArray _ = Data.dict es ep := d
        cases d'
    have nsK : ∀ {b : Addr} {m : Str → Option Value}, s₁.heap.Ns b m → (hidT s₁.heap H).Ns b m := fun {b m} ⟨o, es, ep, e, d, r⟩ => ⟨o, es, ep, base_of e (noA e d), d, r⟩
    have hKb : K.In (hidT s₁.heap H) := fun b o e => base_of (KX b o e) (by
      cases q : H b with
      | none => rfl
      | some u =>
        have e' : b = a := hA b (by rw [q]; simp)
        subst e'
        rw [hK (by rw [q]; simp)] at e; cases e)
    have hM : Mod K mg (hidT s₁.heap H) := ⟨hKb, nsK hns, ⟨mb, nsK hb, hbb⟩, let ⟨mc, h1, h2⟩ := hlim; ⟨mc, nsK h1, h2⟩⟩
    have e0 : Env0 P w K mg (hidT s₁.heap H) callerA [] s₁ H := ⟨rfl, hM, fun b o e => of_hidT e, Nat.le_of_eq (hidT_size _ _), trivial, fun b hb => absurd (show b ∈ ([] : List Addr) from hb) (by simp), hok, .of_eq hg⟩
    refine codeAny_mono ((F _ hKb (nsK hns)).run callerA [] s₁ H ⟨[.ref a], []⟩ [.ref a] [.ref a] _ _ hr e0 (hbind s₁ (.ref a)) (.cons rfl .nil) (hsp H hO hS)) fun r s' h => ?_
    cases r with
    | error e => exact (hCX H e s' h).elim
    | ok fl =>
      cases fl with
      | next => exact False.elim h
      | brk => exact False.elim h
      | cont => exact False.elim h
      | ret u =>
        obtain ⟨v, H', os, bare, un, hok', r', q⟩ := h
        have q' : v = .bl true := q
        subst q'
        obtain rfl : u = Value.bool true := r'
        refine ⟨rfl, OldK.of_keep fun b o e => ?_, os, bare⟩
        cases q : H b with
        | none => exact un.keep b o e q (by intro z; exact absurd (show b ∈ ([] : List Addr) from z) (by simp)) (by simp)
        | some u =>
          rcases hO b with z | ⟨ob, xs, z⟩
          · rw [q] at z; cases z
          · have z2 := un.frzs b ob _ z
            obtain ⟨e1, _⟩ := hok b _ z
            obtain ⟨e2, _⟩ := hok' b _ z2
            rw [e] at e1; cases e1
            exact e2
  cases hk : K.lookup a with
  | some o =>
    have e := KX a o hk
    rw [ha] at e
    cases e
    refine core (fun _ => none) (fun _ => .inl rfl) (.inr ⟨_, vs.toArray, _, hk, rfl, rfl, rfl, by rw [List.size_toArray, lenV]; exact hl, by simpa using rv⟩) (fun b u z => by have z' : (none : Option HO) = some u := z; cases z') (fun b z => absurd rfl z) fun z => absurd rfl z
  | none =>
    refine core (fun b => if b = a then some (.frz { cls := .type "list", data := .seq vs.toArray } (.lst (ns.map V.int))) else none) (fun b => ?_) (.inl (.inr ⟨{ cls := .type "list", data := .seq vs.toArray }, if_pos rfl⟩)) (fun b u z => ?_) (fun b z => ?_) fun _ => hk
    · by_cases hb : b = a
      · exact .inr ⟨_, _, if_pos hb⟩
      · exact .inl (if_neg hb)
    · by_cases hb : b = a
      · have z' := (if_pos hb).symm.trans z
        cases z'
        subst hb
        exact ⟨ha, by rw [List.length_map]; exact hl, vs, _, rv, ha⟩
      · have z' := (if_neg hb).symm.trans z
        cases z'
    · by_cases hb : b = a
      · exact hb
      · exact absurd (if_neg hb) z
end L2
namespace L2
open PySem PySem.Spec PyProof.Rows
theorem walk_of {l : PySem.W.OpenLaw} {n k : Nat} {q : Program} {loose : List Str} {XP : (Str → Option Value) → Heap → Prop} {YP : World → Heap → Prop} {d : DefRec} {K : Params → PySem.W.Frag} {CX : World → CXT} {sp : World → Sp} {x : Str}
    (hn : l.most = some n) (hn2 : n ≤ sizeLine) (hdf : d.params.defaults = []) (hr : Room k callerA)
    (hY : ∀ (w : World) (h : Heap), YP w h → (K w.params).In h)
    (F : ∀ (w : World) (mg : Str → Option Value) (fa : Addr) (h : Heap), (K w.params).In h → h.Ns mainGlobals mg → mg d.name = some (.ref fa) →
      ∃ fd : FuncData, (∀ (s : Shared) (u : Value), BindsTo s fd ⟨[u], []⟩ [(x, u)]) ∧
        ∀ base : Heap, (K w.params).In base → base.Ns mainGlobals mg → FnOk l.prog w (K w.params) mg base (CX w) k fa fd [x] (sp w))
    (hsp : ∀ (w : World) (H : Hp) (a : Addr) (ns : List Int), ns.length ≤ n → Only H → SqL (K w.params) H a (ns.map V.int) → sp w [.ref a] H (fun v _ => v = .bl true) fun _ _ _ => False)
    (hCX : ∀ (w : World) (H : Hp) (s : Shared) (e : Value) (s' : Shared), CX w [] H s (fun _ _ _ => False) e s' → False) :
    PySem.W.WalkO q loose XP YP l.row.toRowW d [] (fun f vs => PySem.call f vs) := by
  refine Att.attach_call hn hdf fun w s₀ s₁ mg mb fa o pm cd doc a vs ns G Y ho hd hcd hmg hobj hints hlen hg => ?_
  have KX := hY w _ Y
  obtain ⟨fd, hb, hF⟩ := F w mg fa _ KX G.T.g hmg
  exact law_call KX G.T.g G.T.b G.T.builtins G.T.nolimit hg hobj hints (Nat.le_trans hlen hn2) hr hF hb (fun H hO hS => hsp w H a ns hlen hO hS) fun H e s' => hCX w H s₁ e s'
end L2
namespace L2
open PySem PySem.Spec PyProof.Rows
def defArgs (s : Stmt) : Arguments := match s with
  | .FunctionDef _ a _ _ _ _ _ _ _ _ => a
  | _ => { posonlyargs := [], args := [], vararg := none, kwonlyargs := [], kw_defaults := [], kwarg := none, defaults := [] }
def defBody (s : Stmt) : List Stmt := match s with
  | .FunctionDef _ _ b _ _ _ _ _ _ _ => b
  | _ => []
def defScope (s : Stmt) : Scope := match s with
  | .FunctionDef _ _ _ _ _ _ sc _ _ _ => sc
  | _ => { kind := .function, names := [], isGenerator := false, isCoroutine := false }
abbrev CX0 : CXT := fun _ _ _ _ _ _ => False
abbrev E0 : XK := fun _ _ _ => False
theorem pass0 {X : Cx} : Passes CX0 X E0 := fun _ _ _ _ _ _ _ h => h.elim
structure Fun (K : PySem.W.Frag) (x qual : Str) (st : Stmt) (f : Addr) (fd : FuncData) : Prop where
  ex : ∃ (oc : Value) (od : Option Addr) (kV doc pm : Value) (an : Option Addr) (cdv ct : Value) (osl : Array (Option Value)),
    fd = PySem.W.fnOf x qual (defArgs st) (defBody st) (defScope st) .none kV doc pm an cdv ct ∧ K.lookup f = some ⟨oc, od, .func fd, osl⟩ ∧ PySem.W.codeIn K cdv qual = true
  kp : PySem.W.keepIn K (.ref f) = true
section
variable {P : Program} {w : World} {K : PySem.W.Frag} {mg : Str → Option Value} {base : Heap}
theorem Fun.ok {x qual : Str} {st : Stmt} {f : Addr} {fd : FuncData} {N ps : List Str} {k : Nat} {sp : Sp} (F : Fun K x qual st f fd) (S : FnScope N ps (defScope st)) (len : ∀ vs H Q E, sp vs H Q E → vs.length = ps.length)
    (hbody : ∀ (cdv : Value) (A : Around) (outer : List Env) (s : Shared) (H : Hp) (vs : List V) (Q : VK) (E : XK), Room k (A.deeper (envOfC qual (defScope st) s.heap.objs.size f cdv)) → sp vs H Q E →
      ∃ t, PSs (cxOf CX0 P w K mg base N qual (defScope st) f cdv A outer s H E).nox (defBody st) t ∧ t { nx := fun _ H' => Q .non H', rt := Q } (start N vs) H) : FnOk P w K mg base CX0 (k + 1) f fd ps sp := by
  obtain ⟨oc, od, kV, doc, pm, an, cdv, ct, osl, rfl, lk, hcd⟩ := F.ex
  refine fn_of lk hcd S len fun A outer s H vs Q E hr hsp => ?_
  obtain ⟨t, h, q⟩ := hbody cdv A outer s H vs Q E hr hsp
  exact ⟨t, h.nox, q⟩
theorem Fun.binds {x qual : Str} {st : Stmt} {f : Addr} {fd : FuncData} {ps : List Str} (F : Fun K x qual st f fd)
    (h : ∀ (kV doc pm : Value) (an : Option Addr) (cdv ct : Value) (us : List Value), us.length = ps.length → bindArgs (PySem.W.fnOf x qual (defArgs st) (defBody st) (defScope st) .none kV doc pm an cdv ct) ⟨us, []⟩ = pure (ps.zip us)) : Binds K fd ps [] := by
  obtain ⟨oc, od, kV, doc, pm, an, cdv, ct, osl, rfl, lk, hcd⟩ := F.ex
  exact .all (h kV doc pm an cdv ct)
theorem fun_mk {x qual : Str} {st : Stmt} {f : Addr} {oc : Value} {od an : Option Addr} {osl : Array (Option Value)} {kV doc pm cdv ct : Value} (l : K.lookup f = some ⟨oc, od, .func (PySem.W.fnOf x qual (defArgs st) (defBody st) (defScope st) .none kV doc pm an cdv ct), osl⟩)
    (c : PySem.W.codeIn K cdv qual = true) (k : PySem.W.keepIn K (.ref f) = true) : Fun K x qual st f (PySem.W.fnOf x qual (defArgs st) (defBody st) (defScope st) .none kV doc pm an cdv ct) := ⟨⟨oc, od, kV, doc, pm, an, cdv, ct, osl, rfl, l, c⟩, k⟩
end
theorem small1000 {n : Nat} (h : n ≤ 1000) : n < sizeLine := Nat.lt_of_le_of_lt h (by decide)
section
variable {X : Cx}
theorem pv (i : Nat) {x : Str} {pos : Pos} (hN : X.N[i]? = some x := by rfl) (hv : Vis X.env.scope x := by first | exact Or.inl rfl | exact Or.inr (Or.inl rfl) | exact Or.inr (Or.inr rfl)) (hd : (x == ("__debug__" : Str)) = false := by decide)
    (hcd : (x == ("__classdict__" : Str)) = false := by decide) : PE X (.Name x pos) (tVar i) := pe_var hN hv hd hcd
end
def Same (H H' : Hp) : Prop := ∀ b o, H b = some o → H' b = some o
theorem Same.refl (H : Hp) : Same H H := fun _ _ h => h
theorem Same.trans {H H1 H2 : Hp} (a : Same H H1) (b : Same H1 H2) : Same H H2 := fun c o h => b c o (a c o h)
theorem Same.free {H H' : Hp} (e : Same H H') {l : Addr} (h : H' l = Option.none) : H l = Option.none := by
  cases q : H l with
  | none => rfl
  | some o =>
    rw [e l o q] at h
    cases h
theorem Same.seq {K : PySem.W.Frag} {H H' : Hp} {a : Addr} {xs : List V} (e : Same H H') (h : SqL K H a xs) : SqL K H' a xs := by
  rcases h with (h | ⟨o, h⟩) | h
  · exact .inl (.inl (e _ _ h))
  · exact .inl (.inr ⟨o, e _ _ h⟩)
  · exact .inr h
end L2
set_option maxHeartbeats 4000000
namespace L2
open PySem PySem.Spec PyProof.Rows
section
variable {prog : Program} {w : World} {A : Around} {R : Result → Shared → Prop} {s : Shared}
theorem compLoop_any {elt target iter : Expr} {scope : Scope} {pos : Pos} {it acc : Value} {env : Env} (I : Nat → Shared → Prop)
    (turn : ∀ n s, I n s → wpAny (model prog w) A (pyNext it) (fun r s₁ => match r with
      | none => R (.ok .next) s₁
      | some v => wpAny (model prog w) A (letOwnedTupleGo target it v) (fun _ s₀ => wpAny (model prog w) A (assign target env v) (fun _ s₂ => wpAny (model prog w) A (eval elt env) (fun x s₃ =>
          wpAny (model prog w) A (call (.builtin "list.append") [acc, x]) (fun _ s₄ => ∃ m, m < n ∧ I m s₄) (fun _ _ => False) s₃)
          (fun _ _ => False) s₂) (fun _ _ => False) s₀) (fun _ _ => False) s₁) (fun _ _ => False) s)
    (n : Nat) (h : I n s) :
    codeAny (model prog w) A (.compLoop (.ListComp elt [⟨target, iter, [], 0⟩] scope pos) 0 it acc env) R s := by
  refine codeAny_loop rfl I (fun n s hI => ?_) n h
  show wpAny _ _ ((compTurn (.ListComp elt [⟨target, iter, [], 0⟩] scope pos) 0 it acc env).onRaise (fun x => do noteFrame x env; theTreesLotGoes x)) _ _ s
  refine wpAny_noted ?_
  rw [compTurn_list1]
  refine wpAny_bind (wpAny_standAt (wpAny_bind (wpAny_mono (turn n s hI) (fun r s₁ h₁ => ?_) fun _ _ h' => h'.elim)))
  cases r with
  | none => exact wpAny_pure h₁
  | some v =>
    refine wpAny_bind (wpAny_mono h₁ (fun _ s₀ h₀ => ?_) fun _ _ h' => h'.elim)
    exact wpAny_bind (wpAny_mono h₀ (fun _ s₂ h₂ => wpAny_bind (wpAny_bind (wpAny_mono h₂ (fun x s₃ h₃ => wpAny_bind (wpAny_mono h₃
      (fun _ s₄ h₄ => wpAny_pure (wpAny_pure ⟨rfl, h₄⟩)) fun _ _ h' => h'.elim)) fun _ _ h' => h'.elim))) fun _ _ h' => h'.elim)
end
def cxComp (X : Cx) (N : List Str) (scope : Scope) (cl : List (Str × Addr)) (C : Addr) (ex : List Addr) (s : Shared) (H : Hp) : Cx where
  prog := X.prog
  w := X.w
  K := X.K
  mg := X.mg
  base := X.base
  A := X.A
  N := N
  s₀ := s
  H₀ := H
  env := compEnvC scope cl C X.env
  outer := X.stack
  stack := X.stack
  ex := ex
  fn := fun _ => false
  calm := X.calm
  pn := X.pn
  xe := fun _ _ => False
def compSt (k : Nat) (js : List Nat) (σ : St) : St := List.replicate k none ++ js.map fun j => (σ[j]?).join
def tComp (wi : TI) (k : Nat) (js : List Nat) (g : TG) (te : TE) : TE := fun σ H Q => wi σ H fun J H1 =>
  ∃ W : Nat → Nat → List V → St → Hp → Prop, (∃ m, W 0 m [] (compSt k js σ) H1) ∧ ∀ i m ys σ' H', W i m ys σ' H' →
    (J.stop i H' ∧ ∀ p, H' p = none → Q (.ref p) (upd H' p (.lst ys))) ∨
    (J.go i H' ∧ ys.length < sizeLine ∧ ∃ N : List V → St → Hp → Prop, (∀ zs σ2 H2, N zs σ2 H2 → ∃ m', m' < m ∧ W (i + 1) m' zs σ2 H2) ∧
      ∀ x H2, J.yld i H' x H2 → g x σ' H2 fun σ3 H3 => te σ3 H3 fun v H4 => N (ys ++ [v]) σ3 H4)
structure Cap (X : Cx) (scope : Scope) (cl : List (Str × Addr)) (x : Str) (j : Nat) : Prop where
  at_ : X.N[j]? = some x
  out : X.env.scope.names.lookup x = some .cell ∨ X.env.scope.names.lookup x = some .free
  inn : (relabel scope X.env).names.lookup x = some .cell ∨ (relabel scope X.env).names.lookup x = some .free
theorem join_some {σ : St} {j : Nat} {v : V} (h : (σ[j]?).join = some v) : σ[j]? = some (some v) := by
  cases e : σ[j]? with
  | none => rw [e] at h; cases h
  | some o =>
    rw [e] at h
    cases o with
    | none => cases h
    | some u => cases h; rfl
theorem comp_core {X : Cx} {elt tg iter : Expr} {scope : Scope} {cl : List (Str × Addr)} {pos : Pos} {own fv : List Str} {js : List Nat} {wi : TI} {g : TG} {te : TE}
    (hc : X.calm = true) (hi : PI X tg iter wi) (hclos : closureFor scope X.env = pure cl) (hcell : ∀ y ∈ scope.names, y.2 ≠ .cell) (hkind : scope.kind = .function)
    (hnames : ∀ y ∈ scope.names, y.2 = .local → scope.names.lookup y.1 = some .local)
    (hcl : ∀ x c, cl.lookup x = some c → X.env.cells.lookup x = some c)
    (hhas : ∀ x, ((relabel scope X.env).names.lookup x = some .cell ∨ (relabel scope X.env).names.lookup x = some .free) → ∃ c, cl.lookup x = some c)
    (hlen : js.length = fv.length) (hcap : ∀ (i : Nat) x j, fv[i]? = some x → js[i]? = some j → Cap X scope cl x j)
    (hg : ∀ (C : Addr) (ex : List Addr) (s : Shared) (H : Hp), PG (cxComp X (own ++ fv) scope cl C ex s H) tg g)
    (he : ∀ (C : Addr) (ex : List Addr) (s : Shared) (H : Hp), PE (cxComp X (own ++ fv) scope cl C ex s H) elt te)
    (hs : ∀ x, foldedSetIterable iter X.env x = pure x)
    {pins : List (Addr × Obj)} {s : Shared} {σ : St} {H : Hp} {Q : VK} {use : Option (Value → Sem Unit)} {QQ : Value → Shared → Prop} {fpos : Pos} (I : Inv X pins σ H s) (h : tComp wi own.length js g te σ H Q)
    (fin : ∀ (a C : Addr) (s5 : Shared) (H5 : Hp) (fl : Flow), Inv X pins σ H5 s5 → H5 C = none → C ≠ X.env.locals → X.s₀.heap.objs.size ≤ C → (∀ x c, X.env.cells.lookup x = some c → c ≠ C) → (∀ p ∈ X.pn ++ pins, p.1 ≠ C) → (∃ m, s5.heap.Ns C m) → Q (.ref a) H5 → compPost (model X.prog X.w) X.A X.xe use QQ (.ref a) C (.ok fl) s5) :
    wpAny (model X.prog X.w) X.A (comprehension (.ListComp elt [⟨tg, iter, [], 0⟩] scope pos) scope X.env fpos (newList []) false (firstIter [⟨tg, iter, [], 0⟩] X.env) use) QQ X.xe s := by
  refine wpAny_comprehension_free (use := use) rfl hs hclos hkind hnames (thn (hi pins s σ H _ I h) fun v s1 h1 => thn h1 fun itv s2 h2 => ?_)
  obtain ⟨it, fp, tn, J, H2, e, I2, T, st2, f2, W, ⟨m0, w0⟩, turn⟩ := h2
  subst e
  refine wpAny_newObj_type (wpAny_newFunctionEnv hcell (by intro y hy; simp at hy) (fun h₁ hns₁ hsb₁ => ?_) hkind)
  dsimp only at hns₁ hsb₁ ⊢
  generalize hHp : s2.heap.push { cls := .type "list", dict := none, data := .seq ([] : List Value).toArray } = hL at hns₁ hsb₁ ⊢
  have hC : hL.objs.size = s2.heap.objs.size + 1 := by rw [← hHp, Heap.size_push]
  have hDC : s2.heap.objs.size ≠ hL.objs.size := by rw [hC]; exact Nat.ne_of_lt (Nat.lt_succ_self _)
  have ltC : ∀ b, b < s2.heap.objs.size → b ≠ hL.objs.size := fun b hb => by rw [hC]; exact Nat.ne_of_lt (Nat.lt_succ_of_lt hb)
  have old : ∀ b o, s2.heap.get? b = some o → h₁.get? b = some o := fun b o e => hsb₁.extBut b o (ltC b (Heap.lt_size e)) (Heap.get?_push_of_some _ (hHp ▸ Heap.get?_push_of_some _ e))
  have hacc : h₁.get? s2.heap.objs.size = some { cls := .type "list", data := .seq ([] : List Value).toArray 0 } := hsb₁.extBut _ _ hDC (Heap.get?_push_of_some _ (hHp ▸ Heap.get?_push_size _ rfl))
  have hfresh : ∀ a, s2.heap.objs.size ≤ a → H2 a = none := fun a ha => I2.hok.fresh ha
  have fpL : ∀ b ∈ fp, b < s2.heap.objs.size := fun b hb => by
    obtain ⟨o, e, _⟩ := T.obj _ _ st2 b hb
    exact Heap.lt_size e
  have cellL : ∀ x c, cl.lookup x = some c → c < s2.heap.objs.size := fun x c e => by
    obtain ⟨v, q⟩ := I2.cell x c (hcl x c e)
    exact q.lt
  have pinL : ∀ p ∈ X.pn ++ pins, p.1 < s2.heap.objs.size := fun p hp => Heap.lt_size (I2.pin p hp).1
  generalize hX : cxComp X (own ++ fv) scope cl hL.objs.size fp s2 H2 = Y
  have ok : Y.Ok := by
    subst hX
    refine ⟨I2.ok.mod, hkind, I2.ok.glob, I2.ok.blt, by show s2.heap.objs.size ≤ hL.objs.size; omega, fun x y c h1 h2 => I2.ok.inj x y c (hcl x c h1) (hcl y c h2), fun x hx => hhas x hx,
      fun x c hf => absurd hf (by show ¬ (false = true); decide), I2.ok.hd, I2.ok.frames, .inl rfl, fun b hb => ⟨ltC b (fpL b hb), fun x c e => (f2 b hb).2.2.2.2.1 x c (hcl x c e)⟩, I2.bs, Nat.le_trans I2.ok.bsz I2.sz, fun b o e hb => ?_, fun b hb hz => ?_, I2.stack, I2.stkFree⟩
    · rcases (f2 b hb).2.2.2.1 with z | z
      · exact I2.ok.noex b o e z
      · exact absurd (Nat.lt_of_lt_of_le (Heap.lt_size e) (Nat.le_trans I2.ok.bsz z)) (Nat.lt_irrefl _)
    · rcases List.mem_cons.mp (I2.stkSub b hz) with z | z
      · exact (f2 b hb).2.1 z
      · exact (f2 b hb).2.2.1 z
  have hYl : Y.env.locals = hL.objs.size := by subst hX; rfl
  have hYs : Y.s₀ = s2 := by subst hX; rfl
  have hYH : Y.H₀ = H2 := by subst hX; rfl
  have hYx : Y.ex = fp := by subst hX; rfl
  have hYf : Y.fs = frs X.stack := by subst hX; rfl
  have hYc : Y.env.cells = cl := by subst hX; rfl
  have hYp : Y.pn = X.pn := by subst hX; rfl
  have pinOk : ∀ p ∈ X.pn ++ pins, s2.heap.get? p.1 = some p.2 ∧ H2 p.1 = none ∧ p.1 ≠ hL.objs.size ∧ p.1 ∉ frs X.stack ∧ ∀ v, p.2.data ≠ .cell v := fun p hp => by
    obtain ⟨e, n, ne, nf, d⟩ := I2.pin p hp
    refine ⟨e, n, ltC _ (Heap.lt_size e), fun z => ?_, d⟩
    rcases List.mem_cons.mp (I2.stkSub _ z) with q | q
    · exact ne q
    · exact nf q
  have stkL : ∀ b ∈ frs X.stack, b < s2.heap.objs.size := fun b hb => by
    obtain ⟨_, o, ho, _⟩ := I2.stack.mem hb
    exact Heap.lt_size ho
  have I3 : Inv Y (pins ++ [(s2.heap.objs.size, { cls := .type "list", data := .seq ([] : List Value).toArray 0 })]) (compSt own.length js σ) H2 { s2 with heap := h₁, toks := s2.toks + ([] : List (Str × Value)).length } := by
    refine ⟨ok, by subst hX; rfl, I2.bare, by rw [hYH, hYs]; exact Un.kept old, ⟨_, by rw [hYl]; exact hns₁, fun i x v e1 e2 e3 => ?_⟩, fun x c e => ?_, by rw [hYl]; exact hfresh _ (by omega), fun x c e => ?_, fun p hp => ?_, by subst hX; exact I2.hok.kept old, ?_⟩
    · subst hX
      have e1 : (own ++ fv)[i]? = some x := e1
      unfold compSt at e2
      by_cases hi : i < own.length
      · rw [List.getElem?_append_left (by simpa using hi), List.getElem?_replicate] at e2
        split at e2 <;> cases e2
      · rw [List.getElem?_append_right (by simpa using hi), List.length_replicate, List.getElem?_map] at e2
        rw [List.getElem?_append_right (by omega)] at e1
        cases ej : js[i - own.length]? with
        | none => rw [ej] at e2; cases e2
        | some j =>
          rw [ej] at e2
          have cp := hcap _ x j e1 ej
          have e2' : σ[j]? = some (some v) := join_some (Option.some.inj e2)
          obtain ⟨m, hn, hl⟩ := I2.loc
          obtain ⟨u, r, l⟩ := hl j x v cp.at_ e2' (cp.out.elim (fun z => .inr (.inl z)) fun z => .inr (.inr z))
          refine ⟨u, r, .inr ⟨cp.inn, ?_⟩⟩
          obtain ⟨c, ec⟩ := hhas x cp.inn
          rcases l with ⟨k, _⟩ | ⟨_, c', ec', z⟩
          · have k : X.env.scope.names.lookup x = some .local := k
            rcases cp.out with q | q <;> rw [q] at k <;> cases k
          · rw [hcl x c ec] at ec'
            cases ec'
            obtain ⟨o, ho, hd⟩ := z
            exact ⟨c, ec, o, old _ _ ho, hd⟩
    · rw [hYc] at e
      obtain ⟨v, o, ho, hd⟩ := I2.cell x c (hcl x c e)
      exact ⟨v, o, old _ _ ho, hd⟩
    · rw [hYc] at e
      exact I2.freeC x c (hcl x c e)
    · rw [hYp] at hp
      rw [hYl, hYf]
      rcases List.mem_append.mp hp with z | z
      · obtain ⟨a, b, c, d, f⟩ := pinOk p (List.mem_append_left _ z)
        exact ⟨old _ _ a, b, c, d, f⟩
      · rcases List.mem_append.mp z with z | z
        · obtain ⟨a, b, c, d, f⟩ := pinOk p (List.mem_append_right _ z)
          exact ⟨old _ _ a, b, c, d, f⟩
        · have e : p = _ := List.mem_singleton.mp z
          subst e
          exact ⟨hacc, hfresh _ (Nat.le_refl _), hDC, fun z => absurd (stkL _ z) (Nat.lt_irrefl _), fun v z => by cases z⟩
    · subst hX
      unfold compSt
      show _ = (own ++ fv).length
      simp [hlen]
  have hYprog : Y.prog = X.prog := by subst hX; rfl
  have hYw : Y.w = X.w := by subst hX; rfl
  have hYK : Y.K = X.K := by subst hX; rfl
  have hYA : Y.A = X.A := by subst hX; rfl
  have hYcalm : Y.calm = true := by subst hX; exact hc
  have hYxe : Y.xe = fun _ _ => False := by subst hX; rfl
  have hYenv : Y.env = compEnvC scope cl hL.objs.size X.env := by subst hX; rfl
  have hg' := hg hL.objs.size fp s2 H2
  have he' := he hL.objs.size fp s2 H2
  rw [hX] at hg' he'
  have fpOk : ∀ {H' : Hp} {pn : List (Addr × Obj)}, (∀ b ∈ fp, H' b = none) → (∀ p ∈ pn, p.1 = s2.heap.objs.size ∨ p ∈ pins) → ∀ b ∈ fp, FpOk Y pn H' b := fun hn hp b hb => by
    refine ⟨hn b hb, by rw [hYl]; exact ltC b (fpL b hb), ?_, .inl (by rw [hYx]; exact hb), fun x c e => ?_, fun p hq => ?_⟩
    · rw [hYf]
      intro hz
      rcases List.mem_cons.mp (I2.stkSub b hz) with z | z
      · exact (f2 b hb).2.1 z
      · exact (f2 b hb).2.2.1 z
    · rw [hYc] at e
      exact (f2 b hb).2.2.2.2.1 x c (hcl x c e)
    · rw [hYp] at hq
      rcases List.mem_append.mp hq with z | z
      · exact (f2 b hb).2.2.2.2.2 p (List.mem_append_left _ z)
      · rcases hp p z with q | q
        · rw [q]; exact Ne.symm (Nat.ne_of_lt (fpL b hb))
        · exact (f2 b hb).2.2.2.2.2 p (List.mem_append_right _ q)
  have loop : ∀ s₃ : Shared, s₃ = { s2 with heap := h₁, toks := s2.toks + ([] : List (Str × Value)).length } →
      codeAny (model X.prog X.w) X.A (.compLoop (.ListComp elt [⟨tg, iter, [], 0⟩] scope pos) 0 (.ref it) (.ref s2.heap.objs.size) (compEnvC scope cl hL.objs.size X.env))
        (compPost (model X.prog X.w) X.A X.xe use QQ (.ref s2.heap.objs.size) hL.objs.size) s₃ := by
    rintro s₃ rfl
    refine compLoop_any (fun n s' => ∃ i ys its k σ' H', Inv Y (pins ++ [(s2.heap.objs.size, { cls := .type "list", data := .seq (its : List Value).toArray k })]) σ' H' s' ∧ tn i s'.heap ∧ (∀ b ∈ fp, H' b = none) ∧ Vals ys its ∧ ys.length ≤ sizeLine ∧ W i n ys σ' H') ?_ m0
      ⟨0, [], [], 0, _, H2, I3, T.keep _ _ _ st2 fun b _ o e => old b o e, fun b hb => (f2 b hb).1, .nil, Nat.zero_le _, w0⟩
    rintro n s4 ⟨i, ys, its, k, σ4, H4, I4, st4, fr4, rv, hz, w4⟩
    have pinD : ∀ p ∈ (pins ++ [(s2.heap.objs.size, ({ cls := .type "list", data := .seq (its : List Value).toArray k } : Obj))]), p.1 = s2.heap.objs.size ∨ p ∈ pins := fun p hp => by
      rcases List.mem_append.mp hp with z | z
      · exact .inr z
      · rw [List.mem_singleton.mp z]; exact .inl rfl
    have F4 := fpOk (pn := pins ++ [(s2.heap.objs.size, { cls := .type "list", data := .seq (its : List Value).toArray k })]) fr4 pinD
    rcases turn i n ys σ4 H4 w4 with ⟨stop, qn⟩ | ⟨go, hlt, N, hN, step⟩
    · have d := T.done Y hYprog hYw hYK hYcalm i _ s4 σ4 H4 (fun _ _ => False) I4 F4 st4 stop
      rw [hYA] at d
      refine thn d fun r s5 ⟨hr, I5⟩ => ?_
      subst hr
      obtain ⟨m, hn, _⟩ := id I5.loc
      rw [hYl] at hn
      have hD := I5.pin (s2.heap.objs.size, { cls := .type "list", data := .seq (its : List Value).toArray k }) (List.mem_append_right _ (List.mem_append_right _ (List.mem_singleton.mpr rfl)))
      have hDn : H4 s2.heap.objs.size = none := hD.2.1
      have kp : ∀ b o, b ≠ hL.objs.size → s5.heap.get? b = some o → s5.heap.get? b = some o := fun b o _ e => e
      have B := I5.base
      rw [hYH, hYs, hYx, hYf] at B
      have s2C : ∀ b o, s2.heap.get? b = some o → b ≠ hL.objs.size := fun b o e => ltC b (Heap.lt_size e)
      have trk : ∀ b u, H4 b = some u → b ≠ s2.heap.objs.size := fun b u e z => by rw [z, hDn] at e; cases e
      have trC : ∀ b u, H4 b = some u → b ≠ hL.objs.size := fun b u e z => by
        have := I5.free
        rw [hYl, ← z, e] at this; cases this
      have hH2 : ∀ b u, H2 b = some u → b ≠ s2.heap.objs.size := fun b u e z => by rw [z, hfresh _ (Nat.le_refl _)] at e; cases e
      have IX : Inv X pins σ (upd H4 s2.heap.objs.size (.lst ys)) s5 := by
       refine I2.call' (ch := fp) (by show s5.os = s2.os; rw [I5.os, hYs]) ⟨fun b o e n hb hx => kp b o (s2C b o e) (B.keep b o e n hb hx), fun b o e n hb hx => ?_, fun b o e n hx => ?_, fun b o e hx => ?_, fun b xs e => ?_, fun b o u e => ?_, fun b ps e => ?_⟩ ?_ I5.bare (fun b hb => ⟨(f2 b hb).2.2.2.1, (f2 b hb).2.1, (f2 b hb).2.2.2.2.1, (f2 b hb).2.2.2.2.2⟩)
       · obtain ⟨sl, q⟩ := B.slot b o e n hb hx
         exact ⟨sl, kp b _ (s2C b o e) q⟩
       · rw [upd_ne (Nat.ne_of_lt (Heap.lt_size e))]
         exact B.free b o e n hx
       · obtain ⟨o', q⟩ := B.there b o e hx
         exact ⟨o', kp b o' (s2C b o e) q⟩
       · rw [upd_ne (hH2 b _ e)]
         exact B.tups b xs e
       · rw [upd_ne (hH2 b _ e)]
         exact B.frzs b o u e
       · obtain ⟨more, q⟩ := B.tbls b ps e
         exact ⟨more, by rw [upd_ne (hH2 b _ e)]; exact q⟩
       · intro b u e
         by_cases hb : b = s2.heap.objs.size
         · subst hb
           rw [upd_same] at e
           cases e
           exact ⟨hz, its, k, rv, kp _ _ hDC hD.1⟩
         · rw [upd_ne hb] at e
           have okb := I5.hok b u e
           rw [hYprog, hYw] at okb
           refine okb.stay (fun c v hc q => kp c v ?_ q) (fun c q => by rw [upd_ne (trk c _ q)]; exact q) fun c xs q => by rw [upd_ne (trk c _ q)]; exact q
           rcases hc with z | z
           · rw [z]; exact trC b u e
           · exact trC c _ z
      have zC : upd H4 s2.heap.objs.size (.lst ys) hL.objs.size = none := by
        rw [upd_ne (Ne.symm hDC)]
        have := I5.free
        rwa [hYl] at this
      exact fin s2.heap.objs.size hL.objs.size s5 _ _ IX zC (Ne.symm (ltC _ I2.lt)) (by have := I2.sz; omega) (fun x c e => ltC c (by obtain ⟨v, q⟩ := I2.cell x c e; exact q.lt)) (fun p hp => ltC _ (pinL p hp)) ⟨m, hn⟩ (qn _ hDn)
    · have d := T.item Y hYprog hYw hYK hYcalm i _ s4 σ4 H4 (fun _ _ => False) I4 F4 st4 go
      rw [hYA] at d
      refine thn d fun r s5 ⟨u, hr, h5⟩ => ?_
      subst hr
      refine thn h5 fun _ s6 ⟨x, H6, I6, r6, y6, st6, fr6⟩ => ?_
      have I6' := I6.pinned (fpOk (pn := pins ++ [(s2.heap.objs.size, { cls := .type "list", data := .seq (its : List Value).toArray k })]) fr6 pinD) (T.obj _ _ st6)
      have d7 := hg' _ s6 σ4 H6 x u _ I6' r6 (step x H6 y6)
      rw [hYprog, hYw, hYA, hYxe, hYenv] at d7
      refine thn d7 fun _ s7 ⟨σ7, H7, I7, q7⟩ => ?_
      have d8 := he' _ s7 σ7 H7 _ I7 q7
      rw [hYprog, hYw, hYA, hYxe, hYenv] at d8
      refine thn d8 fun u8 s8 ⟨v8, H8, I8, r8, n8⟩ => ?_
      obtain ⟨m', hm, w8⟩ := hN _ _ _ n8
      have pD := I8.pin (s2.heap.objs.size, { cls := .type "list", data := .seq (its : List Value).toArray k }) (List.mem_append_right _ (List.mem_append_left _ (List.mem_append_right _ (List.mem_singleton.mpr rfl))))
      have tn8 : tn (i + 1) s8.heap := T.keep _ _ _ st6 fun b hb o e => (I8.pin (b, o) (List.mem_append_right _ (List.mem_append_right _ (mem_pinsAt hb e)))).1
      have fr8 : ∀ b ∈ fp, H8 b = none := fun b hb => by
        obtain ⟨o, e, d⟩ := T.obj _ _ st6 b hb
        exact (I8.pin (b, o) (List.mem_append_right _ (List.mem_append_right _ (mem_pinsAt hb e)))).2.1
      have J8 : Inv Y pins σ7 H8 s8 := I8.unpinned.unpinned
      have eD : s8.heap.get? s2.heap.objs.size = some { cls := .type "list", data := .seq its.toArray k } := pD.1
      refine call_meets F.slot_list_append ⟨_, eD, rfl⟩ F.entry_list_append (F.args_list_append_2 _ _) (PySem.list_append _ its.toArray k u8 (by rw [List.size_toArray, ← rv.length]; omega)) ⟨eD, ?_⟩
      have other : ∀ b o, b ≠ s2.heap.objs.size → s8.heap.get? b = some o → (s8.heap.update s2.heap.objs.size (Obj.mapSeq fun xs => xs.push u8)).get? b = some o := fun b o nb e => (Heap.get?_update_other s8.heap _ (Ne.symm nb)).trans e
      have J9 := J8.turned (t' := s8.toks) (it := s2.heap.objs.size) (h' := s8.heap.update s2.heap.objs.size (Obj.mapSeq fun xs => xs.push u8)) other pD.2.1 (by rw [hYl]; exact hDC) (.inr (by rw [hYs]; exact Nat.le_refl _))
        (fun x c e => by rw [hYc] at e; exact Nat.ne_of_lt (cellL x c e)) (fun p hp => by rw [hYp] at hp; exact Nat.ne_of_lt (pinL p hp))
      have ep : (its.toArray.push u8) = (its ++ [u8]).toArray := by simp
      obtain ⟨kk, upD⟩ : ∃ kk, (s8.heap.update s2.heap.objs.size (Obj.mapSeq fun xs => xs.push u8)).get? s2.heap.objs.size = some { cls := .type "list", data := .seq (its ++ [u8]).toArray kk } := by
        have z := PySem.IsL.update eD (fun xs => xs.push u8)
        rw [ep] at z
        exact ⟨_, z⟩
      refine ⟨m', hm, i + 1, ys ++ [v8], its ++ [u8], kk, σ7, H8, J9.pins_of fun p hp => ?_, T.keep _ _ _ tn8 fun b hb o e => other b o (Nat.ne_of_lt (fpL b hb)) e, fr8, rv.append (.cons r8 .nil), ?_, w8⟩
      · rcases List.mem_append.mp hp with z | z
        · exact J9.pin p (List.mem_append_right _ z)
        · rw [List.mem_singleton.mp z]
          exact ⟨upD, pD.2.1, by rw [hYl]; exact hDC, by rw [hYf]; exact fun z => absurd (stkL _ z) (Nat.lt_irrefl _), fun v z => by cases z⟩
      · rw [List.length_append, List.length_singleton]; omega
  exact codeAny_compStart_list (loop _ rfl) (T.self _ 0 _ _ _ (T.keep _ _ _ st2 fun b _ o e => old b o e) (loop _ rfl))
theorem pe_comp {X : Cx} {elt tg iter : Expr} {scope : Scope} {cl : List (Str × Addr)} {pos : Pos} {own fv : List Str} {js : List Nat} {wi : TI} {g : TG} {te : TE}
    (hc : X.calm = true) (hi : PI X tg iter wi) (hclos : closureFor scope X.env = pure cl) (hcell : ∀ y ∈ scope.names, y.2 ≠ .cell) (hkind : scope.kind = .function)
    (hnames : ∀ y ∈ scope.names, y.2 = .local → scope.names.lookup y.1 = some .local)
    (hcl : ∀ x c, cl.lookup x = some c → X.env.cells.lookup x = some c)
    (hhas : ∀ x, ((relabel scope X.env).names.lookup x = some .cell ∨ (relabel scope X.env).names.lookup x = some .free) → ∃ c, cl.lookup x = some c)
    (hlen : js.length = fv.length) (hcap : ∀ (i : Nat) x j, fv[i]? = some x → js[i]? = some j → Cap X scope cl x j)
    (hg : ∀ (C : Addr) (ex : List Addr) (s : Shared) (H : Hp), PG (cxComp X (own ++ fv) scope cl C ex s H) tg g)
    (he : ∀ (C : Addr) (ex : List Addr) (s : Shared) (H : Hp), PE (cxComp X (own ++ fv) scope cl C ex s H) elt te)
    (hs : ∀ x, foldedSetIterable iter X.env x = pure x := by intro _; rfl) :
    PE X (.ListComp elt [⟨tg, iter, [], 0⟩] scope pos) (tComp wi own.length js g te) := by
  intro pins s σ H Q I h
  rw [eval_ListComp]
  refine comp_core (use := none) (QQ := EP X pins σ Q) hc hi hclos hcell hkind hnames hcl hhas hlen hcap hg he hs I h fun a C s5 H5 fl I5 zC zL zS zc zp ⟨m, hn⟩ q => ⟨m, hn, fun h' sc => ?_⟩
  exact ⟨.ref a, H5, I5.turned (t' := s5.toks) (it := C) (fun d o nd e => sc.extBut d o nd e) zC zL (.inr zS) zc zp, rfl, q⟩
theorem comp_list {K : PySem.W.Frag} {a : Addr} {xs : List V} {g : TG} {te : TE} {Q : VK} {σ : St} {H : Hp} (Pv : Nat → List V → St → Hp → Prop) (h0 : Pv 0 [] σ H) (hl : ∀ i ys σ H, i ≤ xs.length → Pv i ys σ H → SqL K H a xs)
    (hs : ∀ i x ys σ H, xs[i]? = some x → Pv i ys σ H → ys.length < sizeLine ∧ g x σ H fun σ3 H3 => te σ3 H3 fun v H4 => Pv (i + 1) (ys ++ [v]) σ3 H4) (hd : ∀ ys σ H, Pv xs.length ys σ H → ∀ p, H p = none → Q (.ref p) (upd H p (.lst ys))) :
    ∃ W : Nat → Nat → List V → St → Hp → Prop, (∃ m, W 0 m [] σ H) ∧ ∀ i m ys σ' H', W i m ys σ' H' →
      ((Itl K a).stop i H' ∧ ∀ p, H' p = none → Q (.ref p) (upd H' p (.lst ys))) ∨
      ((Itl K a).go i H' ∧ ys.length < sizeLine ∧ ∃ N : List V → St → Hp → Prop, (∀ zs σ2 H2, N zs σ2 H2 → ∃ m', m' < m ∧ W (i + 1) m' zs σ2 H2) ∧
        ∀ x H2, (Itl K a).yld i H' x H2 → g x σ' H2 fun σ3 H3 => te σ3 H3 fun v H4 => N (ys ++ [v]) σ3 H4) := by
  refine ⟨fun i m ys σ H => m = xs.length - i ∧ i ≤ xs.length ∧ Pv i ys σ H, ⟨xs.length, by simp, Nat.zero_le _, h0⟩, ?_⟩
  rintro i m ys σ H ⟨rfl, hi, p⟩
  have q := hl i ys σ H hi p
  by_cases hlt : i < xs.length
  · have e : xs[i]? = some xs[i] := by simp [hlt]
    refine .inr ⟨⟨xs, xs[i], q, e⟩, (hs i _ ys σ H e p).1, Pv (i + 1), fun zs σ' H' p' => ⟨xs.length - (i + 1), by omega, rfl, hlt, p'⟩, fun x H' y => ?_⟩
    obtain ⟨e, y⟩ := y
    subst e
    exact (hs i x ys σ _ (y xs q) p).2
  · have e : i = xs.length := by omega
    subst e
    exact .inl ⟨⟨xs, q, Nat.le_refl _⟩, hd ys σ H p⟩
theorem comp_tup {K : PySem.W.Frag} {a : Addr} {xs : List V} {g : TG} {te : TE} {Q : VK} {σ : St} {H : Hp} (Pv : Nat → List V → St → Hp → Prop) (h0 : Pv 0 [] σ H) (hl : ∀ i ys σ H, i ≤ xs.length → Pv i ys σ H → SqT K H a xs)
    (hs : ∀ i x ys σ H, xs[i]? = some x → Pv i ys σ H → ys.length < sizeLine ∧ g x σ H fun σ3 H3 => te σ3 H3 fun v H4 => Pv (i + 1) (ys ++ [v]) σ3 H4) (hd : ∀ ys σ H, Pv xs.length ys σ H → ∀ p, H p = none → Q (.ref p) (upd H p (.lst ys))) :
    ∃ W : Nat → Nat → List V → St → Hp → Prop, (∃ m, W 0 m [] σ H) ∧ ∀ i m ys σ' H', W i m ys σ' H' →
      ((Itt K a).stop i H' ∧ ∀ p, H' p = none → Q (.ref p) (upd H' p (.lst ys))) ∨
      ((Itt K a).go i H' ∧ ys.length < sizeLine ∧ ∃ N : List V → St → Hp → Prop, (∀ zs σ2 H2, N zs σ2 H2 → ∃ m', m' < m ∧ W (i + 1) m' zs σ2 H2) ∧
        ∀ x H2, (Itt K a).yld i H' x H2 → g x σ' H2 fun σ3 H3 => te σ3 H3 fun v H4 => N (ys ++ [v]) σ3 H4) := by
  refine ⟨fun i m ys σ H => m = xs.length - i ∧ i ≤ xs.length ∧ Pv i ys σ H, ⟨xs.length, by simp, Nat.zero_le _, h0⟩, ?_⟩
  rintro i m ys σ H ⟨rfl, hi, p⟩
  have q := hl i ys σ H hi p
  by_cases hlt : i < xs.length
  · have e : xs[i]? = some xs[i] := by simp [hlt]
    refine .inr ⟨⟨xs, xs[i], q, e⟩, (hs i _ ys σ H e p).1, Pv (i + 1), fun zs σ' H' p' => ⟨xs.length - (i + 1), by omega, rfl, hlt, p'⟩, fun x H' y => ?_⟩
    obtain ⟨e, y⟩ := y
    subst e
    exact (hs i x ys σ _ (y xs q) p).2
  · have e : i = xs.length := by omega
    subst e
    exact .inl ⟨⟨xs, q, Nat.le_refl _⟩, hd ys σ H p⟩
theorem comp_range {lo : Int} {n : Nat} {g : TG} {te : TE} {Q : VK} {σ : St} {H : Hp} (Pv : Nat → List V → St → Hp → Prop) (h0 : Pv 0 [] σ H)
    (hs : ∀ i ys σ H, i < n → Pv i ys σ H → ys.length < sizeLine ∧ g (.int (lo + i)) σ H fun σ3 H3 => te σ3 H3 fun v H4 => Pv (i + 1) (ys ++ [v]) σ3 H4) (hd : ∀ ys σ H, Pv n ys σ H → ∀ p, H p = none → Q (.ref p) (upd H p (.lst ys))) :
    ∃ W : Nat → Nat → List V → St → Hp → Prop, (∃ m, W 0 m [] σ H) ∧ ∀ i m ys σ' H', W i m ys σ' H' →
      ((Itr lo n).stop i H' ∧ ∀ p, H' p = none → Q (.ref p) (upd H' p (.lst ys))) ∨
      ((Itr lo n).go i H' ∧ ys.length < sizeLine ∧ ∃ N : List V → St → Hp → Prop, (∀ zs σ2 H2, N zs σ2 H2 → ∃ m', m' < m ∧ W (i + 1) m' zs σ2 H2) ∧
        ∀ x H2, (Itr lo n).yld i H' x H2 → g x σ' H2 fun σ3 H3 => te σ3 H3 fun v H4 => N (ys ++ [v]) σ3 H4) := by
  refine ⟨fun i m ys σ H => m = n - i ∧ i ≤ n ∧ Pv i ys σ H, ⟨n, by simp, Nat.zero_le _, h0⟩, ?_⟩
  rintro i m ys σ H ⟨rfl, hi, p⟩
  by_cases hlt : i < n
  · refine .inr ⟨hlt, (hs i ys σ H hlt p).1, Pv (i + 1), fun zs σ' H' p' => ⟨n - (i + 1), by omega, rfl, hlt, p'⟩, fun x H' y => ?_⟩
    obtain ⟨e, y⟩ := y
    subst e y
    exact (hs i ys σ _ hlt p).2
  · have e : i = n := by omega
    subst e
    exact .inl ⟨Nat.le_refl _, hd ys σ H p⟩
end L2
namespace L2
open PySem PySem.Spec PyProof.Rows
section
variable {P : Program} {w : World} {K : PySem.W.Frag} {mg : Str → Option Value} {base : Heap} {N : List Str} {qual : Str} {scope : Scope} {f : Addr} {cd : Value} {A : Around} {outer : List Env} {s : Shared} {H : Hp} {E : XK}
end
def tRaise (C : Addr) (Ex : Value → Hp → Prop) (t : TA) : TS := fun _ σ H => t σ H fun vs H1 => vs.length ≤ sizeLine ∧ Ex (.ref C) H1
section
variable {P : Program} {w : World} {K : PySem.W.Frag} {mg : Str → Option Value} {base : Heap}
end
end L2
namespace L2
open PySem PySem.Spec PyProof.Rows
def ExcO (a C : Addr) : HO := .ext fun h => ∃ o vs, h.get? a = some o ∧ o.cls = .ref C ∧ o.data = .fields vs
section
variable {X : Cx} {pins : List (Addr × Obj)} {σ : St} {H : Hp} {s : Shared}
theorem Inv.track {a : Addr} {o : HO} (I : Inv X pins σ H s) (hn : H a = none) (new : ObjOk X.prog X.w (upd H a o) s.heap a o) (h1 : a ≠ X.env.locals) (h2 : ∀ x c, X.env.cells.lookup x = some c → c ≠ a) (h3 : ∀ p ∈ X.pn ++ pins, p.1 ≠ a)
    (h4 : X.s₀.heap.get? a = none) : Inv X pins σ (upd H a o) s := by
  have ne : ∀ b u, H b = some u → b ≠ a := fun b u e z => by rw [z, hn] at e; cases e
  have n0 : ∀ b u, X.s₀.heap.get? b = some u → b ≠ a := fun b u e z => by rw [z, h4] at e; cases e
  refine ⟨I.ok, I.os, I.bare, ⟨I.base.keep, I.base.slot, fun b u e n hx => ?_, I.base.there, fun b xs e => ?_, fun b u v e => ?_, fun b ps e => ?_⟩, I.loc, I.cell, ?_, fun x c e => ?_, fun p hp => ?_, fun b u e => ?_, I.len⟩
  · rw [upd_ne (n0 b u e)]; exact I.base.free b u e n hx
  · have q := I.base.tups b xs e
    rw [upd_ne (ne b _ q)]; exact q
  · have q := I.base.frzs b u v e
    rw [upd_ne (ne b _ q)]; exact q
  · obtain ⟨more, q⟩ := I.base.tbls b ps e
    exact ⟨more, by rw [upd_ne (ne b _ q)]; exact q⟩
  · rw [upd_ne (Ne.symm h1)]; exact I.free
  · rw [upd_ne (h2 x c e)]; exact I.freeC x c e
  · obtain ⟨e, n, ne, nf, d⟩ := I.pin p hp
    exact ⟨e, by rw [upd_ne (h3 p hp)]; exact n, ne, nf, d⟩
  · by_cases hb : b = a
    · subst hb; rw [upd_same] at e; cases e; exact new
    · rw [upd_ne hb] at e
      exact (I.hok b u e).stay (fun c v _ q => q) (fun c q => by rw [upd_ne (ne c _ q)]; exact q) fun c xs q => by rw [upd_ne (ne c _ q)]; exact q
end
abbrev Cx.more (X : Cx) (xe : Value → Shared → Prop) (pn : List (Addr × Obj)) : Cx := { X with xe := xe, pn := pn }
theorem Cx.Ok.more {X : Cx} (ok : X.Ok) (xe : Value → Shared → Prop) (pn : List (Addr × Obj)) : (X.more xe pn).Ok :=
  ⟨ok.mod, ok.kind, ok.glob, ok.blt, ok.above, ok.inj, ok.has, ok.cab, ok.hd, ok.frames, ok.stk, ok.exf, ok.bs, ok.bsz, ok.noex, ok.exfs, ok.funs, ok.frf⟩
section
variable {X : Cx} {CX : CXT} {k : Nat} {f : Addr} {fd : FuncData} {ps : List Str} {sp : Sp} {dvs : List V} {ds : List Value} {EE : St → XK} {x : Str} {p pos : Pos} {e : Expr} {es : List Expr} {t : TA}
def tCallX (sp : Sp) (dvs : List V) (EE : St → XK) (t : TA) : TE := fun σ H Q => t σ H fun vs H1 => sp (vs ++ dvs) H1 Q (EE σ)
end
def goneEnds (D : Ends) (i : Nat) : Ends := { nx := fun σ H => D.nx (σ.set i none) H, rt := D.rt, bk := fun σ H => D.bk (σ.set i none) H, ct := fun σ H => D.ct (σ.set i none) H }
def caughtBy (C : Addr) (i : Nat) (ts : TS) (D : Ends) : St → XK := fun σ1 cls _ H1 => cls = .ref C ∧ ∀ a, H1 a = none → ts (goneEnds D i) (σ1.set i (some (.ref a))) (upd H1 a (ExcO a C))
def tTry (C : Addr) (i : Nat) (tb : (St → XK) → TS) (ts : TS) : TS := fun D σ H => tb (caughtBy C i ts D) D σ H
end L2
namespace L2
open PySem PySem.Spec PyProof.Rows
structure Callee (P : Program) (w : World) (K : PySem.W.Frag) (mg : Str → Option Value) (base : Heap) (CX : CXT) (k : Nat) (x : Str) (ps : List Str) (sp : Sp) : Prop where
  has : ∃ (f : Addr) (fd : FuncData), FnOk P w K mg base CX k f fd ps sp ∧ mg x = some (.ref f) ∧ PySem.W.keepIn K (.ref f) = true ∧ Binds K fd ps []
theorem Callee.mk' {P : Program} {w : World} {K : PySem.W.Frag} {mg : Str → Option Value} {base : Heap} {CX : CXT} {k : Nat} {x qual : Str} {st : Stmt} {f : Addr} {fd : FuncData} {ps : List Str} {sp : Sp} (F : Fun K x qual st f fd) (m : mg x = some (.ref f)) (b : Binds K fd ps [])
    (ok : FnOk P w K mg base CX k f fd ps sp) : Callee P w K mg base CX k x ps sp := ⟨⟨f, fd, ok, m, F.kp, b⟩⟩
theorem Callee.mono {P : Program} {w : World} {K : PySem.W.Frag} {mg : Str → Option Value} {base : Heap} {CX : CXT} {j k : Nat} {x : Str} {ps : List Str} {sp : Sp} (c : Callee P w K mg base CX j x ps sp) (h : j ≤ k) : Callee P w K mg base CX k x ps sp :=
  let ⟨f, fd, ok, m, kp, b⟩ := c.has; ⟨⟨f, fd, ok.mono h, m, kp, b⟩⟩
section
variable {X : Cx} {CX : CXT} {k : Nat} {ps : List Str} {sp : Sp} {E : XK} {x : Str} {p pos : Pos} {e : Expr} {es : List Expr} {t : TA}
theorem pe_cal (c : Callee X.prog X.w X.K X.mg X.base CX k x ps sp) (hr : Room k X.A) (hg : Gl X x) (hx : Passes CX X E) (ha : PA X (e :: es) t) (hdb : (x == ("__debug__" : Str)) = false := by decide)
    (he : starEach (e :: es) X.env = (false, eval e X.env) :: starEach es X.env := by rfl) (hpl : (backTo pos (starEach es X.env)).any (·.1) = false := by rfl) : PE X (.Call (.Name x p) (e :: es) [] pos) (tCall sp [] E t) := by
  obtain ⟨f, fd, ok, m, kp, b⟩ := c.has
  exact pe_call ok hr hg m kp b .nil hx ha hdb he hpl
theorem call_isi : CallR X (.builtin "isinstance") (fun xs H Q => ∃ x n t b, xs = [x, .ty n] ∧ TyOf X.K H x t ∧ PySem.W.kitOne X.K t (.type n) = some b ∧ Q (.bl b) H) := by
  intro pins s σ H xs us Q I r h
  obtain ⟨x, n, t, b, rfl, ty, e, q⟩ := h
  obtain ⟨u, w', rfl, rx, ry⟩ := vals2 r
  cases (show w' = Value.type n from ry)
  exact isinst_ok I rx ty e fun tk => ⟨.bl b, H, I.tok tk, rfl, q⟩
end
end L2
namespace L2
open PySem PySem.Spec PyProof.Rows
theorem relabel_none {scope : Scope} {env : Env} (hfree : ∀ y ∈ scope.names, y.2 ≠ .free) : (relabel scope env).names = scope.names := by
  show scope.names.map _ = scope.names
  have all : ∀ l : List (Str × NameKind), (∀ y ∈ l, y.2 ≠ .free) → (l.map fun (x : Str × NameKind) => match x with | (n, k) => if (k == .free && env.scope.kind == .function && env.kindOf n == some .cell) then (n, .cell) else (n, k)) = l := by
    intro l
    induction l with
    | nil => intro _; rfl
    | cons y r ih =>
      intro hy
      obtain ⟨n, k⟩ := y
      have hk : (k == NameKind.free) = false := by simpa using hy (n, k) (List.mem_cons_self ..)
      rw [List.map_cons, ih fun z hz => hy z (List.mem_cons_of_mem _ hz)]
      simp [hk]
  exact all _ hfree
theorem pe_comp0 {X : Cx} {elt tg iter : Expr} {scope : Scope} {pos : Pos} {own : List Str} {wi : TI} {g : TG} {te : TE}
    (hc : X.calm = true) (hi : PI X tg iter wi) (hcell : ∀ y ∈ scope.names, y.2 ≠ .cell) (hfree : ∀ y ∈ scope.names, y.2 ≠ .free) (hkind : scope.kind = .function)
    (hnames : ∀ y ∈ scope.names, y.2 = .local → scope.names.lookup y.1 = some .local)
    (hg : ∀ (C : Addr) (ex : List Addr) (s : Shared) (H : Hp), PG (cxComp X own scope [] C ex s H) tg g)
    (he : ∀ (C : Addr) (ex : List Addr) (s : Shared) (H : Hp), PE (cxComp X own scope [] C ex s H) elt te)
    (hs : ∀ x, foldedSetIterable iter X.env x = pure x := by intro _; rfl) :
    PE X (.ListComp elt [⟨tg, iter, [], 0⟩] scope pos) (tComp wi own.length [] g te) := by
  refine pe_comp (own := own) (fv := []) (js := []) (cl := []) hc hi (closureFor_none hfree) hcell hkind hnames (fun x c h => by cases h) (fun x h => ?_) rfl (fun i x j h => by simp at h) (by simpa using hg) (by simpa using he) hs
  rw [relabel_none hfree] at h
  rcases h with h | h
  · exact absurd rfl (hcell _ (PySem.mem_of_lookup h))
  · exact absurd rfl (hfree _ (PySem.mem_of_lookup h))
end L2
namespace L2
open PySem PySem.Spec PyProof.Rows
def CDivW (i j : Int) : Prop := j ≠ 0 ∧ -18446744073709551616 < j ∧ j < 18446744073709551616
end L2
namespace L2
open PySem PySem.Spec PyProof.Rows
section
variable {K : PySem.W.Frag}
def LoopL (K : PySem.W.Frag) (g : TG) (tb : TS) (D : Ends) (σ : St) (x : V) (H1 : Hp) : Prop := ∃ a, x = .ref a ∧ (∃ xs, SqL K H1 a xs) ∧ ∃ W : Nat → Nat → St → Hp → Prop, (∃ m, W 0 m σ H1) ∧ ∀ i m σ H, W i m σ H →
  ((Itl K a).stop i H ∧ D.nx σ H) ∨ ((Itl K a).go i H ∧ ∃ N : St → Hp → Prop, (∀ σ' H', N σ' H' → ∃ m', m' < m ∧ W (i + 1) m' σ' H') ∧ ∀ x H', (Itl K a).yld i H x H' → g x σ H' fun σ2 H2 => tb { D with nx := N, ct := N, bk := D.nx } σ2 H2)
def LoopT (K : PySem.W.Frag) (g : TG) (tb : TS) (D : Ends) (σ : St) (x : V) (H1 : Hp) : Prop := ∃ a, x = .ref a ∧ (∃ xs, SqT K H1 a xs) ∧ ∃ W : Nat → Nat → St → Hp → Prop, (∃ m, W 0 m σ H1) ∧ ∀ i m σ H, W i m σ H →
  ((Itt K a).stop i H ∧ D.nx σ H) ∨ ((Itt K a).go i H ∧ ∃ N : St → Hp → Prop, (∀ σ' H', N σ' H' → ∃ m', m' < m ∧ W (i + 1) m' σ' H') ∧ ∀ x H', (Itt K a).yld i H x H' → g x σ H' fun σ2 H2 => tb { D with nx := N, ct := N, bk := D.nx } σ2 H2)
def LoopR (lo : Int) (n : Nat) (g : TG) (tb : TS) (D : Ends) (σ : St) (H1 : Hp) : Prop := ∃ W : Nat → Nat → St → Hp → Prop, (∃ m, W 0 m σ H1) ∧ ∀ i m σ H, W i m σ H →
  ((Itr lo n).stop i H ∧ D.nx σ H) ∨ ((Itr lo n).go i H ∧ ∃ N : St → Hp → Prop, (∀ σ' H', N σ' H' → ∃ m', m' < m ∧ W (i + 1) m' σ' H') ∧ ∀ x H', (Itr lo n).yld i H x H' → g x σ H' fun σ2 H2 => tb { D with nx := N, ct := N, bk := D.nx } σ2 H2)
theorem for_eqL {te : TE} {g : TG} {tb : TS} {D : Ends} {σ : St} {H : Hp} : tFor (iList K te) g tb D σ H = te σ H fun x H1 => LoopL K g tb D σ x H1 := rfl
theorem for_eqT {te : TE} {g : TG} {tb : TS} {D : Ends} {σ : St} {H : Hp} : tFor (iTup K te) g tb D σ H = te σ H fun x H1 => LoopT K g tb D σ x H1 := rfl
theorem for_eqR1 {ta : TA} {g : TG} {tb : TS} {D : Ends} {σ : St} {H : Hp} : tFor (iRng1 ta) g tb D σ H = ta σ H fun vs H1 => ∃ j : Int, vs = [.int j] ∧ -(2 ^ 62) ≤ j ∧ j < 2 ^ 62 ∧ LoopR 0 j.toNat g tb D σ H1 := rfl
theorem for_eqR2 {ta : TA} {g : TG} {tb : TS} {D : Ends} {σ : St} {H : Hp} : tFor (iRng2 ta) g tb D σ H = ta σ H fun vs H1 => ∃ i j : Int, vs = [.int i, .int j] ∧ (-(2 ^ 62) ≤ i ∧ i < 2 ^ 62 ∧ -(2 ^ 62) ≤ j ∧ j < 2 ^ 62) ∧ LoopR i (j - i).toNat g tb D σ H1 := rfl
theorem LoopL.mk {a : Addr} {xs : List V} {g : TG} {tb : TS} {D : Ends} {σ : St} {H : Hp} (hS : SqL K H a xs) (Pv : Nat → St → Hp → Prop) (h0 : Pv 0 σ H) (hl : ∀ i σ H, i ≤ xs.length → Pv i σ H → SqL K H a xs)
    (hs : ∀ i x σ H, xs[i]? = some x → Pv i σ H → g x σ H fun σ2 H2 => tb { D with nx := Pv (i + 1), ct := Pv (i + 1), bk := D.nx } σ2 H2) (hd : ∀ σ H, Pv xs.length σ H → D.nx σ H) : LoopL K g tb D σ (.ref a) H := ⟨a, rfl, ⟨xs, hS⟩, for_list Pv h0 hl hs hd⟩
theorem LoopT.mk {a : Addr} {xs : List V} {g : TG} {tb : TS} {D : Ends} {σ : St} {H : Hp} (hS : SqT K H a xs) (Pv : Nat → St → Hp → Prop) (h0 : Pv 0 σ H) (hl : ∀ i σ H, i ≤ xs.length → Pv i σ H → SqT K H a xs)
    (hs : ∀ i x σ H, xs[i]? = some x → Pv i σ H → g x σ H fun σ2 H2 => tb { D with nx := Pv (i + 1), ct := Pv (i + 1), bk := D.nx } σ2 H2) (hd : ∀ σ H, Pv xs.length σ H → D.nx σ H) : LoopT K g tb D σ (.ref a) H := ⟨a, rfl, ⟨xs, hS⟩, for_tup Pv h0 hl hs hd⟩
theorem LoopR.mk {lo : Int} {n : Nat} {g : TG} {tb : TS} {D : Ends} {σ : St} {H : Hp} (Pv : Nat → St → Hp → Prop) (h0 : Pv 0 σ H)
    (hs : ∀ i σ H, i < n → Pv i σ H → g (.int (lo + i)) σ H fun σ2 H2 => tb { D with nx := Pv (i + 1), ct := Pv (i + 1), bk := D.nx } σ2 H2) (hd : ∀ σ H, Pv n σ H → D.nx σ H) : LoopR lo n g tb D σ H := for_range Pv h0 hs hd
def CompL (K : PySem.W.Frag) (k : Nat) (js : List Nat) (g : TG) (te : TE) (σ : St) (x : V) (H1 : Hp) (Q : VK) : Prop := ∃ a, x = .ref a ∧ (∃ xs, SqL K H1 a xs) ∧ ∃ W : Nat → Nat → List V → St → Hp → Prop, (∃ m, W 0 m [] (compSt k js σ) H1) ∧ ∀ i m ys σ' H', W i m ys σ' H' →
    ((Itl K a).stop i H' ∧ ∀ p, H' p = none → Q (.ref p) (upd H' p (.lst ys))) ∨
    ((Itl K a).go i H' ∧ ys.length < sizeLine ∧ ∃ N : List V → St → Hp → Prop, (∀ zs σ2 H2, N zs σ2 H2 → ∃ m', m' < m ∧ W (i + 1) m' zs σ2 H2) ∧ ∀ x H2, (Itl K a).yld i H' x H2 → g x σ' H2 fun σ3 H3 => te σ3 H3 fun v H4 => N (ys ++ [v]) σ3 H4)
def CompT (K : PySem.W.Frag) (k : Nat) (js : List Nat) (g : TG) (te : TE) (σ : St) (x : V) (H1 : Hp) (Q : VK) : Prop := ∃ a, x = .ref a ∧ (∃ xs, SqT K H1 a xs) ∧ ∃ W : Nat → Nat → List V → St → Hp → Prop, (∃ m, W 0 m [] (compSt k js σ) H1) ∧ ∀ i m ys σ' H', W i m ys σ' H' →
    ((Itt K a).stop i H' ∧ ∀ p, H' p = none → Q (.ref p) (upd H' p (.lst ys))) ∨
    ((Itt K a).go i H' ∧ ys.length < sizeLine ∧ ∃ N : List V → St → Hp → Prop, (∀ zs σ2 H2, N zs σ2 H2 → ∃ m', m' < m ∧ W (i + 1) m' zs σ2 H2) ∧ ∀ x H2, (Itt K a).yld i H' x H2 → g x σ' H2 fun σ3 H3 => te σ3 H3 fun v H4 => N (ys ++ [v]) σ3 H4)
def CompR (lo : Int) (n k : Nat) (js : List Nat) (g : TG) (te : TE) (σ : St) (H1 : Hp) (Q : VK) : Prop := ∃ W : Nat → Nat → List V → St → Hp → Prop, (∃ m, W 0 m [] (compSt k js σ) H1) ∧ ∀ i m ys σ' H', W i m ys σ' H' →
    ((Itr lo n).stop i H' ∧ ∀ p, H' p = none → Q (.ref p) (upd H' p (.lst ys))) ∨
    ((Itr lo n).go i H' ∧ ys.length < sizeLine ∧ ∃ N : List V → St → Hp → Prop, (∀ zs σ2 H2, N zs σ2 H2 → ∃ m', m' < m ∧ W (i + 1) m' zs σ2 H2) ∧ ∀ x H2, (Itr lo n).yld i H' x H2 → g x σ' H2 fun σ3 H3 => te σ3 H3 fun v H4 => N (ys ++ [v]) σ3 H4)
theorem comp_eqL {k : Nat} {js : List Nat} {ti : TE} {g : TG} {te : TE} {σ : St} {H : Hp} {Q : VK} : tComp (iList K ti) k js g te σ H Q = ti σ H fun x H1 => CompL K k js g te σ x H1 Q := rfl
theorem comp_eqT {k : Nat} {js : List Nat} {ti : TE} {g : TG} {te : TE} {σ : St} {H : Hp} {Q : VK} : tComp (iTup K ti) k js g te σ H Q = ti σ H fun x H1 => CompT K k js g te σ x H1 Q := rfl
theorem comp_eqR1 {k : Nat} {js : List Nat} {ta : TA} {g : TG} {te : TE} {σ : St} {H : Hp} {Q : VK} : tComp (iRng1 ta) k js g te σ H Q = ta σ H fun vs H1 => ∃ j : Int, vs = [.int j] ∧ -(2 ^ 62) ≤ j ∧ j < 2 ^ 62 ∧ CompR 0 j.toNat k js g te σ H1 Q := rfl
theorem CompL.mk {a : Addr} {xs : List V} {k : Nat} {js : List Nat} {g : TG} {te : TE} {Q : VK} {σ : St} {H : Hp} (hS : SqL K H a xs) (Pv : Nat → List V → St → Hp → Prop) (h0 : Pv 0 [] (compSt k js σ) H) (hl : ∀ i ys σ H, i ≤ xs.length → Pv i ys σ H → SqL K H a xs)
    (hs : ∀ i x ys σ H, xs[i]? = some x → Pv i ys σ H → ys.length < sizeLine ∧ g x σ H fun σ3 H3 => te σ3 H3 fun v H4 => Pv (i + 1) (ys ++ [v]) σ3 H4) (hd : ∀ ys σ H, Pv xs.length ys σ H → ∀ p, H p = none → Q (.ref p) (upd H p (.lst ys))) :
    CompL K k js g te σ (.ref a) H Q := ⟨a, rfl, ⟨xs, hS⟩, comp_list Pv h0 hl hs hd⟩
theorem CompT.mk {a : Addr} {xs : List V} {k : Nat} {js : List Nat} {g : TG} {te : TE} {Q : VK} {σ : St} {H : Hp} (hS : SqT K H a xs) (Pv : Nat → List V → St → Hp → Prop) (h0 : Pv 0 [] (compSt k js σ) H) (hl : ∀ i ys σ H, i ≤ xs.length → Pv i ys σ H → SqT K H a xs)
    (hs : ∀ i x ys σ H, xs[i]? = some x → Pv i ys σ H → ys.length < sizeLine ∧ g x σ H fun σ3 H3 => te σ3 H3 fun v H4 => Pv (i + 1) (ys ++ [v]) σ3 H4) (hd : ∀ ys σ H, Pv xs.length ys σ H → ∀ p, H p = none → Q (.ref p) (upd H p (.lst ys))) :
    CompT K k js g te σ (.ref a) H Q := ⟨a, rfl, ⟨xs, hS⟩, comp_tup Pv h0 hl hs hd⟩
theorem CompR.mk {lo : Int} {n k : Nat} {js : List Nat} {g : TG} {te : TE} {Q : VK} {σ : St} {H : Hp} (Pv : Nat → List V → St → Hp → Prop) (h0 : Pv 0 [] (compSt k js σ) H)
    (hs : ∀ i ys σ H, i < n → Pv i ys σ H → ys.length < sizeLine ∧ g (.int (lo + i)) σ H fun σ3 H3 => te σ3 H3 fun v H4 => Pv (i + 1) (ys ++ [v]) σ3 H4) (hd : ∀ ys σ H, Pv n ys σ H → ∀ p, H p = none → Q (.ref p) (upd H p (.lst ys))) :
    CompR lo n k js g te σ H Q := comp_range Pv h0 hs hd
end
theorem cxOf_K {CX : CXT} {P : Program} {w : World} {K : PySem.W.Frag} {mg : Str → Option Value} {base : Heap} {N : List Str} {qual : Str} {scope : Scope} {f : Addr} {cd : Value} {A : Around} {outer : List Env} {s : Shared} {H : Hp} {E : XK} : (cxOf CX P w K mg base N qual scope f cd A outer s H E).K = K := rfl
theorem cxComp_K {X : Cx} {N : List Str} {scope : Scope} {cl : List (Str × Addr)} {C : Addr} {ex : List Addr} {s : Shared} {H : Hp} : (cxComp X N scope cl C ex s H).K = X.K := rfl
def tyS : V → Option String
  | .int _ => some "int"
  | .bl _ => some "bool"
  | .str _ => some "str"
  | .non => some "NoneType"
  | _ => none
def isiN (t n : String) : Bool := t == n || (t == "bool" && n == "int")
def isiB (x : V) (n : String) : Bool := match tyS x with
  | some t => isiN t n
  | none => false
theorem isi_ii {i : Int} : isiB (.int i) "int" = true := by show isiN "int" "int" = true; decide +kernel
theorem isi_ib {i : Int} : isiB (.int i) "bool" = false := by show isiN "int" "bool" = false; decide +kernel
theorem isi_bi {b : Bool} : isiB (.bl b) "int" = true := by show isiN "bool" "int" = true; decide +kernel
theorem isi_bb {b : Bool} : isiB (.bl b) "bool" = true := by show isiN "bool" "bool" = true; decide +kernel
theorem isi_it {i : Int} : isiB (.int i) "tuple" = false := by show isiN "int" "tuple" = false; decide +kernel
theorem kit_type {K : PySem.W.Frag} {t n : String} {b : Bool} (e : (if (Value.type t == Value.type n) = true then some true else if PySem.W.kitMeta n = true then (fastBuiltinMro t).map (·.contains (.type n)) else none) = some b) : PySem.W.kitOne K (.type t) (.type n) = some b := by
  unfold PySem.W.kitOne
  split at e
  · rename_i h; rw [if_pos h]; exact e
  · rename_i h; rw [if_neg h]; exact e
theorem kit_plain {K : PySem.W.Frag} {x : V} {t n : String} (hn : n ∈ ["int", "bool", "tuple", "list", "str"]) (ht : tyS x = some t) : PySem.W.kitOne K (.type t) (.type n) = some (isiB x n) := by
  simp only [List.mem_cons, List.mem_nil_iff, or_false] at hn
  cases x <;> simp only [tyS, reduceCtorEq, Option.some.injEq] at ht <;> subst ht <;> rcases hn with rfl | rfl | rfl | rfl | rfl <;> refine kit_type ?_ <;> simp only [isiB, tyS] <;> decide +kernel
theorem call_isiS {X : Cx} : CallR X (.builtin "isinstance") (fun xs H Q => ∃ x n, xs = [x, .ty n] ∧ (n ∈ ["int", "bool", "tuple", "list", "str"] ∧ (tyS x).isSome = true) ∧ Q (.bl (isiB x n)) H) := by
  intro pins s σ H xs us Q I r h
  obtain ⟨x, n, rfl, ⟨hn, hx⟩, q⟩ := h
  obtain ⟨t, ht⟩ := Option.isSome_iff_exists.mp hx
  refine call_isi pins s σ H _ us Q I r ⟨x, n, .type t, isiB x n, rfl, ?_, kit_plain hn ht, q⟩
  cases x <;> simp only [tyS, reduceCtorEq, Option.some.injEq] at ht <;> subst ht
  · exact .non
  · exact .bl _
  · exact .int _
  · exact .str _
end L2
namespace L2
open PySem PySem.Spec PyProof.Rows
theorem na2 : (Int.natAbs 2 < 18446744073709551616) = True := eq_true (by decide)
theorem na10 : (Int.natAbs 10 < 18446744073709551616) = True := eq_true (by decide)
theorem same_new {H : Hp} {p : Addr} (h : H p = none) (o : HO) : Same H (upd H p o) := fun b u q => by rw [upd_ne (ne_of_none q h)]; exact q
theorem small {n : Nat} (h : n ≤ 1000) : n ≤ sizeLine := Nat.le_of_lt (small1000 h)
theorem Same.tup {K : PySem.W.Frag} {H H' : Hp} {a : Addr} {xs : List V} (e : Same H H') (h : SqT K H a xs) : SqT K H' a xs := by
  rcases h with (h | ⟨o, h⟩) | h
  · exact .inl (.inl (e _ _ h))
  · exact .inl (.inr ⟨o, e _ _ h⟩)
  · exact .inr h
theorem st_one {σ : St} (h : σ.length = 1) : ∃ z, σ = [z] := by
  match σ, h with
  | [z], _ => exact ⟨z, rfl⟩
theorem getmap {α β : Type} {f : α → β} {l : List α} {i : Nat} {y : β} (h : (l.map f)[i]? = some y) : ∃ x, l[i]? = some x ∧ y = f x := by
  rw [List.getElem?_map] at h
  obtain ⟨x, h1, h2⟩ := Option.map_eq_some_iff.mp h
  exact ⟨x, h1, h2.symm⟩
theorem take_succ' {α : Type} {l : List α} {i : Nat} {x : α} (h : l[i]? = some x) : l.take (i + 1) = l.take i ++ [x] := by
  rw [List.take_succ, h]; rfl
theorem CompL.vals {K : PySem.W.Frag} {a : Addr} {xs : List V} {te : TE} {Q : VK} {σ : St} {H : Hp} {fn : V → V} (hS : SqL K H a xs) (hz : xs.length ≤ 1000)
    (hs : ∀ x ∈ xs, ∀ H1, Same H H1 → ∀ Q' : VK, (∀ H2, Same H1 H2 → Q' (fn x) H2) → te [some x] H1 Q')
    (hd : ∀ H1, Same H H1 → ∀ p, H1 p = none → Q (.ref p) (upd H1 p (.lst (xs.map fn)))) : CompL K 1 [] (gName 0) te σ (.ref a) H Q := by
  refine CompL.mk hS (fun i ys σ' H' => Same H H' ∧ ys = (xs.take i).map fn ∧ σ'.length = 1) ⟨Same.refl _, rfl, rfl⟩ (fun i ys σ' H' _ h => h.1.seq hS) (fun i x ys σ' H' e h => ?_) (fun ys σ' H' h p hp => ?_)
  · obtain ⟨h1, rfl, h3⟩ := h
    obtain ⟨z, rfl⟩ := st_one h3
    refine ⟨?_, ?_⟩
    · rw [List.length_map, List.length_take]
      exact Nat.lt_of_le_of_lt (Nat.min_le_right _ _) (small1000 hz)
    · refine hs x (List.mem_of_getElem? e) H' h1 _ fun H2 h2 => ⟨h1.trans h2, ?_, rfl⟩
      rw [take_succ' e, List.map_append]; rfl
  · obtain ⟨h1, rfl, h3⟩ := h
    rw [List.take_length]
    exact hd H' h1 p hp
theorem CompL.ints {K : PySem.W.Frag} {a : Addr} {ns : List Int} {te : TE} {Q : VK} {σ : St} {H : Hp} {fn : Int → Int} (hS : SqL K H a (ns.map V.int)) (hz : ns.length ≤ 1000)
    (hs : ∀ n ∈ ns, ∀ H1, Same H H1 → ∀ Q' : VK, (∀ H2, Same H1 H2 → Q' (.int (fn n)) H2) → te [some (.int n)] H1 Q')
    (hd : ∀ H1, Same H H1 → ∀ p, H1 p = none → Q (.ref p) (upd H1 p (.lst ((ns.map fn).map V.int)))) : CompL K 1 [] (gName 0) te σ (.ref a) H Q := by
  refine CompL.vals (fn := fun x => match x with | .int n => .int (fn n) | y => y) hS (by rw [List.length_map]; exact hz) (fun x hx H1 h1 Q' h2 => ?_) (fun H1 h1 p hp => ?_)
  · obtain ⟨n, hn, rfl⟩ := List.mem_map.mp hx
    exact hs n hn H1 h1 Q' h2
  · have e := hd H1 h1 p hp
    rw [List.map_map] at e ⊢
    exact e
end L2
namespace L2
open PySem PySem.Spec PyProof.Rows
section
variable {X : Cx}
def rInT : R2 := fun x y H Q => ∃ p xs, y = .ref p ∧ H p = some (.tup xs) ∧ flatV x = true ∧ xs.all flatV = true ∧ Q (.bl (inV x xs)) H
def rInL : R2 := fun x y H Q => ∃ p xs, y = .ref p ∧ H p = some (.lst xs) ∧ flatV x = true ∧ xs.all flatV = true ∧ Q (.bl (inV x xs)) H
theorem op_inL : OpR X (compareOp .In) rInL := by
  intro pins s σ H x y v u Q I rx ry h
  obtain ⟨p, xs, rfl, hq, fx, fs, q⟩ := h
  exact op_in_seq pins s σ H x _ v u Q I rx ry ⟨p, xs, rfl, .inl (.of hq), fx, fs, q⟩
def rIxLH : R2 := fun x y H Q => ∃ p xs i v, x = .ref p ∧ y = .int i ∧ H p = some (.lst xs) ∧ atI xs i = some v ∧ Q v H
def rIxTH : R2 := fun x y H Q => ∃ p xs i v, x = .ref p ∧ y = .int i ∧ H p = some (.tup xs) ∧ atI xs i = some v ∧ Q v H
theorem ix_listH : IxR X rIxLH := by
  intro value slice pins s σ H x y v u Q I rx ry h hs
  obtain ⟨p, xs, i, z, rfl, rfl, hq, he, q⟩ := h
  exact ix_list value slice pins s σ H _ _ v u Q I rx ry ⟨p, xs, i, z, rfl, rfl, .of hq, he, q⟩ hs
theorem ix_tupH : IxR X rIxTH := by
  intro value slice pins s σ H x y v u Q I rx ry h hs
  obtain ⟨p, xs, i, z, rfl, rfl, hq, he, q⟩ := h
  exact ix_tup value slice pins s σ H _ _ v u Q I rx ry ⟨p, xs, i, z, rfl, rfl, .of hq, he, q⟩ hs
end
end L2
namespace L2
open PySem PySem.Spec PyProof.Rows
section
variable {X : Cx}
def gTupH (n : Nat) (t : TGs) : TG := fun v σ H Q => ∃ a xs, v = .ref a ∧ H a = some (.tup xs) ∧ xs.length = n ∧ t xs σ H Q
theorem pg_tupH {es : List Expr} {k : Nat} {pos : Pos} {t : TGs} {n : Nat} (h : PG X (.Tuple es k pos) (gTup X.K n t)) : PG X (.Tuple es k pos) (gTupH n t) := by
  intro pins s σ H v u Q I r q
  obtain ⟨a, xs, e, ha, hl, q⟩ := q
  exact h pins s σ H v u Q I r ⟨a, xs, e, .of ha, hl, q⟩
def tApp (to te : TE) : TE := fun σ H Q => to σ H fun x H1 => ∃ l, x = .ref l ∧ (∃ xs, H1 l = some (.lst xs)) ∧ te σ H1 fun v H2 => ∃ xs, H2 l = some (.lst xs) ∧ xs.length < sizeLine ∧ Q .non (upd H2 l (.lst (xs ++ [v])))
theorem pe_app {o e : Expr} {to te : TE} {apos cpos : Pos} (ho : PE X o to) (he : PE X e te)
    (hbase : attributeBase o "append" X.env (eval o X.env) = eval o X.env := by rfl) (hfew : ((backTo cpos (starEach [e] X.env)).all (fun x => !x.1) && (backToKw cpos (keywordEach [] X.env)).all (fun x => x.1.isSome)
      && decide ([e].length + ([] : List Keyword).length + (if ([] : List Keyword).isEmpty then 0 else 1) < 30)) = true := by rfl)
    (hline : (apos.endLine == cpos.line) = true := by rfl) (hs : starEach [e] X.env = [(false, eval e X.env)] := by rfl) : PE X (.Call (.Attribute o "append" apos) [e] [] cpos) (tApp to te) := by
  intro pins s σ H Q I h
  refine wpAny_Call_method_late hbase hfew hline rfl (thn (ho pins s σ H _ I h) fun v s1 ⟨x, H1, I1, r1, q1⟩ => ?_)
  obtain ⟨l, rfl, ⟨xs1, hx1⟩, q2⟩ := q1
  obtain ⟨h1, h2⟩ := tyV_is (T := "list") I1 r1 (.inl ⟨rfl, _, .of hx1⟩)
  refine ⟨"list", "list.append", PySem.F.plainAttrs_list, PySem.F.slot_list_append, PySem.F.type_list_append, h1, h2, ?_⟩
  have hA := (pa_cons he pa_nil hs) cpos pins s1 σ H1 (fun vs H2 => match vs with | [v] => ∃ xs, H2 l = some (.lst xs) ∧ xs.length < sizeLine ∧ Q .non (upd H2 l (.lst (xs ++ [v]))) | _ => False) I1 q2
  rw [hs] at hA ⊢
  refine Calls.callWith_builtin rfl (Calls.evalArgs_plain ?_)
  refine thn hA fun us s2 ⟨vs, H2, I2, r2, q3⟩ => ?_
  match vs, q3 with
  | [v2], ⟨xs, hx, hz, q⟩ => exact mt_append pins s2 σ H2 (.ref l) [v2] v us Q I2 r1 r2 ⟨l, xs, v2, rfl, rfl, hx, hz, q⟩
end
def SameX (l : Addr) (H H' : Hp) : Prop := ∀ b o, b ≠ l → H b = some o → H' b = some o
theorem SameX.refl (l : Addr) (H : Hp) : SameX l H H := fun _ _ _ h => h
theorem SameX.trans {l : Addr} {H H1 H2 : Hp} (a : SameX l H H1) (b : SameX l H1 H2) : SameX l H H2 := fun c o n h => b c o n (a c o n h)
theorem SameX.set {l : Addr} (H : Hp) (o : HO) : SameX l H (upd H l o) := fun b u n e => by rw [upd_ne n]; exact e
end L2
namespace L2
open PySem PySem.Spec PyProof.Rows
def IsRv (h : Heap) (a t : Addr) (i : Int) : Prop := ∃ o, h.get? a = some o ∧ o.cls = .type "reversed" ∧ o.data = .fields #[.ref t, rawInt i]
theorem IsRv.typeIs {s : Shared} {a t : Addr} {i : Int} (x : IsRv s.heap a t i) : s.TypeIs (.ref a) "reversed" := let ⟨o, ho, hc, _⟩ := x; ⟨o, ho, hc⟩
section
variable {prog : Program} {w : World} {A : Around} {E : Value → Shared → Prop} {s : Shared}
end
def Itrv (K : PySem.W.Frag) (a : Addr) (n : Nat) : It := ⟨fun i H => ∃ xs, SqT K H a xs ∧ xs.length = n ∧ i < n, fun i H x H' => H' = H ∧ ∀ xs, SqT K H a xs → xs[n - 1 - i]? = some x, fun i H => ∃ xs, SqT K H a xs ∧ xs.length = n ∧ i = n⟩
section
variable {X : Cx} {tg : Expr}
def iRevT (K : PySem.W.Frag) (te : TE) : TI := fun σ H R => te σ H fun x H1 => ∃ a xs, x = .ref a ∧ SqT K H1 a xs ∧ R (Itrv K a xs.length) H1
end
def LoopV (K : PySem.W.Frag) (g : TG) (tb : TS) (D : Ends) (σ : St) (x : V) (H1 : Hp) : Prop := ∃ a xs, x = .ref a ∧ SqT K H1 a xs ∧ ∃ W : Nat → Nat → St → Hp → Prop, (∃ m, W 0 m σ H1) ∧ ∀ i m σ H, W i m σ H →
  ((Itrv K a xs.length).stop i H ∧ D.nx σ H) ∨ ((Itrv K a xs.length).go i H ∧ ∃ N : St → Hp → Prop, (∀ σ' H', N σ' H' → ∃ m', m' < m ∧ W (i + 1) m' σ' H') ∧ ∀ x H', (Itrv K a xs.length).yld i H x H' → g x σ H' fun σ2 H2 => tb { D with nx := N, ct := N, bk := D.nx } σ2 H2)
theorem for_eqV {K : PySem.W.Frag} {te : TE} {g : TG} {tb : TS} {D : Ends} {σ : St} {H : Hp} : tFor (iRevT K te) g tb D σ H = te σ H fun x H1 => LoopV K g tb D σ x H1 := rfl
theorem LoopV.mk {K : PySem.W.Frag} {a : Addr} {xs : List V} {g : TG} {tb : TS} {D : Ends} {σ : St} {H : Hp} (hS : SqT K H a xs) (Pv : Nat → St → Hp → Prop) (h0 : Pv 0 σ H) (hl : ∀ i σ H, i ≤ xs.length → Pv i σ H → SqT K H a xs)
    (hs : ∀ i x σ H, i < xs.length → xs[xs.length - 1 - i]? = some x → Pv i σ H → g x σ H fun σ2 H2 => tb { D with nx := Pv (i + 1), ct := Pv (i + 1), bk := D.nx } σ2 H2) (hd : ∀ σ H, Pv xs.length σ H → D.nx σ H) : LoopV K g tb D σ (.ref a) H := by
  refine ⟨a, xs, rfl, hS, fun i m σ H => m = xs.length - i ∧ i ≤ xs.length ∧ Pv i σ H, ⟨xs.length, by simp, Nat.zero_le _, h0⟩, ?_⟩
  rintro i m σ H ⟨rfl, hi, p⟩
  have q := hl i σ H hi p
  by_cases hlt : i < xs.length
  · refine .inr ⟨⟨xs, q, rfl, hlt⟩, Pv (i + 1), fun σ' H' p' => ⟨xs.length - (i + 1), by omega, rfl, hlt, p'⟩, fun x H' y => ?_⟩
    obtain ⟨e, y⟩ := y
    subst e
    exact hs i x σ _ hlt (y xs q) p
  · have e : i = xs.length := by omega
    subst e
    exact .inl ⟨⟨xs, q, rfl, rfl⟩, hd σ H p⟩
end L2
namespace L2
open PySem PySem.Spec PyProof.Rows
section
variable {X : Cx}
def rCatA (K : PySem.W.Frag) : R2 := fun x y H Q => ∃ a b xs ys, x = .ref a ∧ y = .ref b ∧ SqT K H a xs ∧ SqT K H b ys ∧ xs.length + ys.length ≤ sizeLine ∧
  (xs = [] → Q (.ref b) H) ∧ (xs ≠ [] → ys = [] → Q (.ref a) H) ∧ (xs ≠ [] → ys ≠ [] → ∀ p, H p = none → Q (.ref p) (upd H p (.tup (xs ++ ys))))
def eqVs : List V → List V → Bool
  | [], [] => true
  | x :: xs, y :: ys => eqV x y && eqVs xs ys
  | _, _ => false
def rEqL (K : PySem.W.Frag) : R2 := fun x y H Q => ∃ a b xs ys, x = .ref a ∧ y = .ref b ∧ SqL K H a xs ∧ SqL K H b ys ∧ xs.all flatV = true ∧ ys.all flatV = true ∧ Q (.bl (eqVs xs ys)) H
def rEqT (K : PySem.W.Frag) : R2 := fun x y H Q => ∃ a b xs ys, x = .ref a ∧ y = .ref b ∧ SqT K H a xs ∧ SqT K H b ys ∧ xs.all flatV = true ∧ ys.all flatV = true ∧ Q (.bl (eqVs xs ys)) H
theorem flat_ints : ∀ (ns : List Int), (ns.map V.int).all flatV = true
  | [] => rfl
  | n :: ns => by simp [flatV]
end
end L2
namespace L2
open PySem PySem.Spec PyProof.Rows
section
variable {pg : Program} {wd : World} {B : Around} {X0 : Value → Shared → Prop} {s0 : Shared}
theorem nx_tup_item {j t : Addr} {k : Nat} {its : Array Value} {x : Value} {R : Value → Shared → Prop} (p : s0.heap.IsTupleIter j t k) (q : s0.heap.IsTuple t its) (e : its[k]? = some x)
    (f : ∀ h', h'.IsTupleIter j t (k + 1) → Heap.SameBut j s0.heap h' → R x { s0 with heap := h' }) : wpAny (model pg wd) B (Builtin.SmallTypes.nextOf (.ref j)) R X0 s0 := by
  obtain ⟨o, g, c, d⟩ := id p
  obtain ⟨ot, gt, _, nt, dt⟩ := q
  unfold Builtin.SmallTypes.nextOf
  refine wpAny_bind (wpAny_callSpecial?_slot (name := Str.ofString "__next__") p.typeIs F.slot_tuple_iterator_next (wpAny_call_entry F.slot_tuple_iterator_next p.typeIs F.entry_tuple_iterator_next ?_ (F.args_tuple_iterator_next_1 _)))
  show wpAny _ _ (field (.ref j) 0 >>= _) _ _ s0
  refine wpAny_bind (wpAny_field g d (x := .ref t) rfl ?_)
  show wpAny _ _ (if (Value.ref t == Value.none) = true then _ else _) _ _ s0
  rw [if_neg (show ¬ ((Value.ref t == Value.none) = true) from Bool.false_ne_true)]
  show wpAny _ _ (field (.ref j) 1 >>= _) _ _ s0
  refine wpAny_bind (wpAny_field g d (x := .int k 0) rfl ?_)
  show wpAny _ _ (seqItems? (.ref t) >>= _) _ _ s0
  refine wpAny_bind (wpAny_seqItems gt dt ?_)
  simp only [Int.toNat_natCast, e]
  refine wpAny_bind (wpAny_setField g d (by simp) (wpAny_pure ⟨x, rfl, wpAny_pure (f _ ?_ (Heap.SameBut.update ..))⟩))
  exact ⟨_, Heap.get?_update_self _ g (Obj.isFreed_of_fields (Obj.data_mapFields d _)), (Obj.cls_mapFields ..).trans c, by rw [Obj.data_mapFields d]; simp [rawInt]⟩
theorem nx_tup_end {j t : Addr} {k : Nat} {its : Array Value} {R : Value → Shared → Prop} (hh : B.handled = none) (p : s0.heap.IsTupleIter j t k) (q : s0.heap.IsTuple t its) (e : its[k]? = none)
    (f : ∀ h' z, Heap.ExtBut j s0.heap h' → (∃ o, h'.get? z = some o ∧ o.cls = .type "StopIteration") → X0 (.ref z) { s0 with heap := h' }) : wpAny (model pg wd) B (Builtin.SmallTypes.nextOf (.ref j)) R X0 s0 := by
  obtain ⟨o, g, c, d⟩ := id p
  obtain ⟨ot, gt, _, nt, dt⟩ := q
  unfold Builtin.SmallTypes.nextOf
  refine wpAny_bind (wpAny_callSpecial?_slot (name := Str.ofString "__next__") p.typeIs F.slot_tuple_iterator_next (wpAny_call_entry F.slot_tuple_iterator_next p.typeIs F.entry_tuple_iterator_next ?_ (F.args_tuple_iterator_next_1 _)))
  show wpAny _ _ (field (.ref j) 0 >>= _) _ _ s0
  refine wpAny_bind (wpAny_field g d (x := .ref t) rfl ?_)
  show wpAny _ _ (if (Value.ref t == Value.none) = true then _ else _) _ _ s0
  rw [if_neg (show ¬ ((Value.ref t == Value.none) = true) from Bool.false_ne_true)]
  show wpAny _ _ (field (.ref j) 1 >>= _) _ _ s0
  refine wpAny_bind (wpAny_field g d (x := .int k 0) rfl ?_)
  show wpAny _ _ (seqItems? (.ref t) >>= _) _ _ s0
  refine wpAny_bind (wpAny_seqItems gt dt ?_)
  simp only [Int.toNat_natCast, e]
  refine wpAny_bind (wpAny_rule (wpAny_bind (wpAny_setField g d (by simp) ?_)))
  show wpAny _ _ (newExc (.type "StopIteration") [] >>= _) _ _ _
  refine wpAny_bind ?_
  simp only [newExc, newTuple]
  refine wpAny_bind (wpAny_newObj_type ?_ (by size_fits))
  refine wpAny_bind (m := firstArgMember _ _) (wpAny_of_eq (a := Value.none) (by first | rfl | (simp only [firstArgMember]; rfl)) ?_)
  refine wpAny_newObj_type ?_ (by size_fits)
  simp only [raiseNew]
  refine wpAny_bind (wpAny_handled ?_)
  first | rw [show B.in1.handled = none from hh] | rw [hh]
  refine wpAny_bind (wpAny_pure (wpAny_throw ?_))
  exact f _ _ (((Heap.SameBut.update ..).extBut.push _).push _) ⟨_, Heap.get?_push_size _ rfl, rfl⟩
structure Apart5 (z ti ox j1 j2 t1 t2 : Addr) : Prop where
  ti_z : ti ≠ z
  ox_z : ox ≠ z
  j1_z : j1 ≠ z
  j2_z : j2 ≠ z
  ti_ox : ti ≠ ox
  ti_j1 : ti ≠ j1
  ti_j2 : ti ≠ j2
  ox_j1 : ox ≠ j1
  ox_j2 : ox ≠ j2
  j12 : j1 ≠ j2
  t1_z : t1 ≠ z
  t1_ox : t1 ≠ ox
  t1_j1 : t1 ≠ j1
  t1_j2 : t1 ≠ j2
  t2_z : t2 ≠ z
  t2_ox : t2 ≠ ox
  t2_j1 : t2 ≠ j1
  t2_j2 : t2 ≠ j2
def But4 (z ox j1 j2 : Addr) (h h' : Heap) : Prop := ∀ c o, c ≠ z → c ≠ ox → c ≠ j1 → c ≠ j2 → h.get? c = some o → h'.get? c = some o
theorem tupIt_at {h h' : Heap} {j t : Addr} {k : Nat} (p : h.IsTupleIter j t k) (f : ∀ o, h.get? j = some o → h'.get? j = some o) : h'.IsTupleIter j t k := let ⟨o, g, r⟩ := p; ⟨o, f o g, r⟩
theorem tup_at {h h' : Heap} {t : Addr} {its : Array Value} (p : h.IsTuple t its) (f : ∀ o, h.get? t = some o → h'.get? t = some o) : h'.IsTuple t its := let ⟨o, g, r⟩ := p; ⟨o, f o g, r⟩
theorem zipT_item {z ti ox j1 j2 t1 t2 : Addr} {k : Nat} {as bs : Array Value} {x y u v : Value} {R : Option Value → Shared → Prop} (ap : Apart5 z ti ox j1 j2 t1 t2) (hz : IsZip s0.heap z ti ox .none) (hi : IsPair s0.heap ti (.ref j1) (.ref j2)) (ho : IsPair s0.heap ox u v)
    (p1 : s0.heap.IsTupleIter j1 t1 k) (p2 : s0.heap.IsTupleIter j2 t2 k) (q1 : s0.heap.IsTuple t1 as) (q2 : s0.heap.IsTuple t2 bs) (e1 : as[k]? = some x) (e2 : bs[k]? = some y)
    (f : ∀ h', IsZip h' z ti ox (rawInt s0.heap.objs.size) → IsPair h' ox x y → h'.IsTupleIter j1 t1 (k + 1) → h'.IsTupleIter j2 t2 (k + 1) → IsPair h' s0.heap.objs.size x y → But4 z ox j1 j2 s0.heap h' → R (some (.ref s0.heap.objs.size)) { s0 with heap := h' }) :
    wpAny (model pg wd) B (pyNext (.ref z)) R X0 s0 := by
  have ty : s0.TypeIs (.ref z) "zip" := ⟨_, hz, rfl⟩
  unfold pyNext
  refine wpAny_bind (wpAny_attempt (wpAny_callSpecial?_slot (name := Str.ofString "__next__") ty F.slot_zip_next (wpAny_call_entry F.slot_zip_next ty F.entry_zip_next ?_ (F.args_zip_next_1 _))))
  show wpAny _ _ (field (.ref z) 2 >>= _) _ _ _
  refine wpAny_bind (wpAny_field hz rfl (x := .bool false) rfl ?_)
  show wpAny _ _ (field (.ref z) 3 >>= _) _ _ _
  refine wpAny_bind (wpAny_field hz rfl (x := .ref ti) rfl ?_)
  refine wpAny_bind (wpAny_seqItems hi rfl ?_)
  show wpAny _ _ (Builtin.SmallTypes.ownedTupleIsFree (.ref z) >>= _) _ _ _
  refine wpAny_bind ?_
  unfold Builtin.SmallTypes.ownedTupleIsFree
  refine wpAny_bind (wpAny_field hz rfl (x := .none) rfl (wpAny_pure ?_))
  simp only [if_true]
  refine wpAny_bind (wpAny_rule ?_)
  refine wpAny_bind (wpAny_field hz rfl (x := .ref ox) rfl ?_)
  refine wpAny_bind (wpAny_setField_rec hz (by simp) fun m1 zm1 sb1 => ?_)
  have zm1 : IsZip m1 z ti ox .ellipsis := zm1
  refine wpAny_bind ?_
  simp only [List.zipIdx_cons, List.zipIdx_nil, List.forIn_cons, List.forIn_nil]
  refine wpAny_bind (wpAny_bind (wpAny_onRaise ?_))
  show wpAny _ _ (Builtin.SmallTypes.nextOf (.ref j1) >>= _) _ _ _
  refine wpAny_bind (nx_tup_item (tupIt_at p1 fun o g => sb1.extBut _ _ ap.j1_z g) (tup_at q1 fun o g => sb1.extBut _ _ ap.t1_z g) e1 fun m2 pm2 sb2 => wpAny_pure ?_)
  have om2 : IsPair m2 ox u v := sb2.extBut _ _ ap.ox_j1 (sb1.extBut _ _ ap.ox_z ho)
  refine wpAny_bind (wpAny_seqItems om2 rfl ?_)
  refine wpAny_bind (wpAny_updateSeq_pair om2 fun m3 om3 sb3 => ?_)
  have om3 : IsPair m3 ox x v := om3
  refine wpAny_bind (wpAny_letGo (wpAny_pure ?_))
  refine wpAny_bind (wpAny_bind (wpAny_onRaise ?_))
  show wpAny _ _ (Builtin.SmallTypes.nextOf (.ref j2) >>= _) _ _ _
  have to3 : ∀ c o, c ≠ z → c ≠ ox → c ≠ j1 → s0.heap.get? c = some o → m3.get? c = some o := fun c o a1 a2 a3 g => sb3.extBut _ _ a2 (sb2.extBut _ _ a3 (sb1.extBut _ _ a1 g))
  refine wpAny_bind (nx_tup_item (tupIt_at p2 fun o g => to3 _ o ap.j2_z ap.ox_j2.symm ap.j12.symm g) (tup_at q2 fun o g => to3 _ o ap.t2_z ap.t2_ox ap.t2_j1 g) e2 fun m4 pm4 sb4 => wpAny_pure ?_)
  have om4 : IsPair m4 ox x v := sb4.extBut _ _ ap.ox_j2 om3
  refine wpAny_bind (wpAny_seqItems om4 rfl ?_)
  refine wpAny_bind (wpAny_updateSeq_pair om4 fun m5 om5 sb5 => ?_)
  have om5 : IsPair m5 ox x y := om5
  refine wpAny_bind (wpAny_letGo (wpAny_pure (wpAny_pure ?_)))
  refine wpAny_bind (wpAny_seqItems om5 rfl ?_)
  refine wpAny_bind (wpAny_newTuple ?_)
  have sz5 : m5.objs.size = s0.heap.objs.size := by rw [sb5.1, sb4.1, sb3.1, sb2.1, sb1.1]
  have zm5 : IsZip m5 z ti ox .ellipsis := sb5.extBut _ _ ap.ox_z.symm (sb4.extBut _ _ ap.j2_z.symm (sb3.extBut _ _ ap.ox_z.symm (sb2.extBut _ _ ap.j1_z.symm zm1)))
  have to5 : But4 z ox j1 j2 s0.heap m5 := fun c o a1 a2 a3 a4 g => sb5.extBut _ _ a2 (sb4.extBut _ _ a4 (to3 c o a1 a2 a3 g))
  have pj1 : m5.IsTupleIter j1 t1 (k + 1) := tupIt_at pm2 fun o g => sb5.extBut _ _ ap.ox_j1.symm (sb4.extBut _ _ ap.j12 (sb3.extBut _ _ ap.ox_j1.symm g))
  have pj2 : m5.IsTupleIter j2 t2 (k + 1) := tupIt_at pm4 fun o g => sb5.extBut _ _ ap.ox_j2.symm g
  have zlt : z < m5.objs.size := Heap.lt_size zm5
  show wpAny _ _ (Builtin.SmallTypes.ownedTupleHandOut (.ref z) (.ref m5.objs.size) >>= _) _ _ _
  refine wpAny_bind ?_
  unfold Builtin.SmallTypes.ownedTupleHandOut
  have zm6 : IsZip (m5.push { cls := .type "tuple", data := .seq #[x, y] }) z ti ox .ellipsis := Heap.get?_push_of_some _ zm5
  refine wpAny_bind (wpAny_setField_rec zm6 (by simp) fun m7 zm7 sb7 => ?_)
  have zm7 : IsZip m7 z ti ox (rawInt m5.objs.size) := zm7
  refine wpAny_setField_rec zm7 (by simp) fun m8 zm8 sb8 => ?_
  have zm8 : IsZip m8 z ti ox (rawInt m5.objs.size) := zm8
  have to8 : ∀ c o, c ≠ z → m5.get? c = some o → m8.get? c = some o := fun c o a1 g => sb8.extBut _ _ a1 (sb7.extBut _ _ a1 (Heap.get?_push_of_some _ g))
  have np8 : IsPair m8 m5.objs.size x y := sb8.extBut _ _ (Nat.ne_of_gt zlt) (sb7.extBut _ _ (Nat.ne_of_gt zlt) (Heap.get?_push_size _ rfl))
  rw [sz5] at zm8 np8
  refine wpAny_pure ⟨_, rfl, wpAny_pure ?_⟩
  show R (some (.ref m5.objs.size)) _
  rw [sz5]
  exact f m8 zm8 (to8 _ _ ap.ox_z om5) (tupIt_at pj1 fun o g => to8 _ o ap.j1_z g) (tupIt_at pj2 fun o g => to8 _ o ap.j2_z g) np8 fun c o a1 a2 a3 a4 g => to8 c o a1 (to5 c o a1 a2 a3 a4 g)
theorem zipT_end {z ti ox j1 j2 t1 t2 : Addr} {k : Nat} {as bs : Array Value} {u v : Value} {R : Option Value → Shared → Prop} (hh : B.handled = none) (ap : Apart5 z ti ox j1 j2 t1 t2) (hz : IsZip s0.heap z ti ox .none) (hi : IsPair s0.heap ti (.ref j1) (.ref j2)) (ho : IsPair s0.heap ox u v)
    (p1 : s0.heap.IsTupleIter j1 t1 k) (p2 : s0.heap.IsTupleIter j2 t2 k) (q1 : s0.heap.IsTuple t1 as) (q2 : s0.heap.IsTuple t2 bs) (hend : as[k]? = none ∨ bs[k]? = none)
    (f : ∀ h', But4 z ox j1 j2 s0.heap h' → R none { s0 with heap := h' }) : wpAny (model pg wd) B (pyNext (.ref z)) R X0 s0 := by
  have ty : s0.TypeIs (.ref z) "zip" := ⟨_, hz, rfl⟩
  have last : ∀ (h' : Heap) (e : Addr), But4 z ox j1 j2 s0.heap h' → (∃ o, h'.get? e = some o ∧ o.cls = .type "StopIteration") → wpAny (model pg wd) B (do if ← isInstance (.ref e) (.type "StopIteration") then pure none else throw (.ref e)) R X0 { s0 with heap := h' } := fun h' e bt ⟨o, g, c⟩ =>
    wpAny_bind (wpAny_isInstance (T := "StopIteration") (b := true) ⟨o, g, c⟩ isSubtype_stop (wpAny_pure (f _ bt)))
  unfold pyNext
  refine wpAny_bind (wpAny_attempt (wpAny_callSpecial?_slot (name := Str.ofString "__next__") ty F.slot_zip_next (wpAny_call_entry F.slot_zip_next ty F.entry_zip_next ?_ (F.args_zip_next_1 _))))
  show wpAny _ _ (field (.ref z) 2 >>= _) _ _ _
  refine wpAny_bind (wpAny_field hz rfl (x := .bool false) rfl ?_)
  show wpAny _ _ (field (.ref z) 3 >>= _) _ _ _
  refine wpAny_bind (wpAny_field hz rfl (x := .ref ti) rfl ?_)
  refine wpAny_bind (wpAny_seqItems hi rfl ?_)
  show wpAny _ _ (Builtin.SmallTypes.ownedTupleIsFree (.ref z) >>= _) _ _ _
  refine wpAny_bind ?_
  unfold Builtin.SmallTypes.ownedTupleIsFree
  refine wpAny_bind (wpAny_field hz rfl (x := .none) rfl (wpAny_pure ?_))
  simp only [if_true]
  refine wpAny_bind (wpAny_rule ?_)
  refine wpAny_bind (wpAny_field hz rfl (x := .ref ox) rfl ?_)
  refine wpAny_bind (wpAny_setField_rec hz (by simp) fun m1 zm1 sb1 => ?_)
  have zm1 : IsZip m1 z ti ox .ellipsis := zm1
  refine wpAny_bind ?_
  simp only [List.zipIdx_cons, List.zipIdx_nil, List.forIn_cons, List.forIn_nil]
  refine wpAny_bind (wpAny_bind (wpAny_onRaise ?_))
  show wpAny _ _ (Builtin.SmallTypes.nextOf (.ref j1) >>= _) _ _ _
  cases e1 : as[k]? with
  | none =>
    refine wpAny_bind (nx_tup_end hh (tupIt_at p1 fun o g => sb1.extBut _ _ ap.j1_z g) (tup_at q1 fun o g => sb1.extBut _ _ ap.t1_z g) e1 fun m2 e xb he => ?_)
    obtain ⟨oe, ge, ce⟩ := he
    have zm2 : IsZip m2 z ti ox .ellipsis := xb _ _ ap.j1_z.symm zm1
    have ez : e ≠ z := fun q => by subst q; rw [zm2] at ge; cases ge; simp at ce
    exact wpAny_setField_rec zm2 (by simp) fun m3 _ sb3 => last m3 e (fun c o a1 _ a3 _ g => sb3.extBut _ _ a1 (xb _ _ a3 (sb1.extBut _ _ a1 g))) ⟨oe, sb3.extBut _ _ ez ge, ce⟩
  | some x =>
    have e2 : bs[k]? = none := by rcases hend with q | q; rw [e1] at q; cases q; exact q
    refine wpAny_bind (nx_tup_item (tupIt_at p1 fun o g => sb1.extBut _ _ ap.j1_z g) (tup_at q1 fun o g => sb1.extBut _ _ ap.t1_z g) e1 fun m2 pm2 sb2 => wpAny_pure ?_)
    have om2 : IsPair m2 ox u v := sb2.extBut _ _ ap.ox_j1 (sb1.extBut _ _ ap.ox_z ho)
    refine wpAny_bind (wpAny_seqItems om2 rfl ?_)
    refine wpAny_bind (wpAny_updateSeq_pair om2 fun m3 om3 sb3 => ?_)
    refine wpAny_bind (wpAny_letGo (wpAny_pure ?_))
    refine wpAny_bind (wpAny_bind (wpAny_onRaise ?_))
    show wpAny _ _ (Builtin.SmallTypes.nextOf (.ref j2) >>= _) _ _ _
    have to3 : ∀ c o, c ≠ z → c ≠ ox → c ≠ j1 → s0.heap.get? c = some o → m3.get? c = some o := fun c o a1 a2 a3 g => sb3.extBut _ _ a2 (sb2.extBut _ _ a3 (sb1.extBut _ _ a1 g))
    refine wpAny_bind (nx_tup_end hh (tupIt_at p2 fun o g => to3 _ o ap.j2_z ap.ox_j2.symm ap.j12.symm g) (tup_at q2 fun o g => to3 _ o ap.t2_z ap.t2_ox ap.t2_j1 g) e2 fun m4 e xb he => ?_)
    obtain ⟨oe, ge, ce⟩ := he
    have zm4 : IsZip m4 z ti ox .ellipsis := xb _ _ ap.j2_z.symm (sb3.extBut _ _ ap.ox_z.symm (sb2.extBut _ _ ap.j1_z.symm zm1))
    have ez : e ≠ z := fun q => by subst q; rw [zm4] at ge; cases ge; simp at ce
    exact wpAny_setField_rec zm4 (by simp) fun m5 _ sb5 => last m5 e (fun c o a1 a2 a3 a4 g => sb5.extBut _ _ a1 (xb _ _ a4 (to3 c o a1 a2 a3 g))) ⟨oe, sb5.extBut _ _ ez ge, ce⟩
end
end L2
namespace L2
open PySem PySem.Spec PyProof.Rows
theorem Inv.turnedL {X : Cx} {pins : List (Addr × Obj)} {σ : St} {H : Hp} {s : Shared} {h' : Heap} {t' : Nat} {fl : List Addr} (I : Inv X pins σ H s) (kk : ∀ b o, b ∉ fl → s.heap.get? b = some o → h'.get? b = some o) (fo : ∀ b ∈ fl, FpOk X pins H b) : Inv X pins σ H { s with heap := h', toks := t' } := by
  have out : ∀ b u, H b = some u → b ∉ fl := fun b u e z => by rw [(fo b z).1] at e; cases e
  refine I.step (g' := s.gens) (d' := s.drawn) (ch := fl) (fun b hb => ?_) (fun b o _ _ hc e _ => kk b o hc e) (fun b o _ _ hc e _ => ⟨o.slots, kk b o hc e⟩) (fun _ _ _ _ q => q)
    (fun b o hc e => ⟨o, kk b o hc e⟩) (fun _ _ e => e) (fun _ _ _ e => e) (fun b ps e => ⟨#[], by rw [e]; simp⟩) (fun m hm => ?_) (fun b u e => ?_) I.bare
  · obtain ⟨_, f1, _, f3, f4, f5⟩ := fo b hb
    exact ⟨f3, f1, f4, f5⟩
  · obtain ⟨o, es, ep, ho, r⟩ := hm
    exact ⟨o, es, ep, kk _ o (fun z => (fo _ z).2.1 rfl) ho, r⟩
  · refine (I.hok b u e).stay (fun c v hc q => kk c v ?_ q) (fun _ q => q) fun _ _ q => q
    rcases hc with z | z
    · rw [z]; exact out b u e
    · exact out c _ z
def Itz (K : PySem.W.Frag) (a b : Addr) : It := ⟨fun i H => ∃ xs ys x y, SqT K H a xs ∧ SqT K H b ys ∧ xs[i]? = some x ∧ ys[i]? = some y,
  fun i H v H' => ∃ T x y, v = .ref T ∧ H T = none ∧ H' = upd H T (.tup [x, y]) ∧ ∀ xs ys, SqT K H a xs → SqT K H b ys → xs[i]? = some x ∧ ys[i]? = some y, fun i H => ∃ xs ys, SqT K H a xs ∧ SqT K H b ys ∧ (xs.length ≤ i ∨ ys.length ≤ i)⟩
theorem turn_zip {P : Program} {w : World} {K : PySem.W.Frag} {es : List Expr} {x1 : Nat} {pp : Pos} {a b z ti ox j1 j2 : Addr} (ap : Apart5 z ti ox j1 j2 a b) :
    Turn P w K (.Tuple es x1 pp) (Itz K a b) [z, ti, ox, j1, j2] z (fun i h => IsZip h z ti ox .none ∧ IsPair h ti (.ref j1) (.ref j2) ∧ (∃ u v, IsPair h ox u v) ∧ h.IsTupleIter j1 a i ∧ h.IsTupleIter j2 b i) where
  mem := by simp
  obj := fun i h q c hc => by
    obtain ⟨q1, q2, ⟨u, v, q3⟩, ⟨o4, g4, _, d4⟩, ⟨o5, g5, _, d5⟩⟩ := q
    simp only [List.mem_cons, List.not_mem_nil, or_false] at hc
    rcases hc with rfl | rfl | rfl | rfl | rfl
    · exact ⟨_, q1, fun v z => nomatch z⟩
    · exact ⟨_, q2, fun v z => nomatch z⟩
    · exact ⟨_, q3, fun v z => nomatch z⟩
    · exact ⟨_, g4, fun v z => by rw [d4] at z; cases z⟩
    · exact ⟨_, g5, fun v z => by rw [d5] at z; cases z⟩
  keep := fun i h h' q k => by
    obtain ⟨q1, q2, ⟨u, v, q3⟩, q4, q5⟩ := q
    exact ⟨k _ (by simp) _ q1, k _ (by simp) _ q2, ⟨u, v, k _ (by simp) _ q3⟩, tupIt_at q4 fun o g => k _ (by simp) o g, tupIt_at q5 fun o g => k _ (by simp) o g⟩
  item := by
    intro X hP hw hK hc i pins s σ H E I hf st hg
    subst hP hw hK
    obtain ⟨xs, ys, x, y, hq1, hq2, hx, hy⟩ := hg
    obtain ⟨q1, q2, ⟨u, v, q3⟩, q4, q5⟩ := st
    obtain ⟨as, ra, pa, za⟩ := I.tuple hq1
    obtain ⟨bs, rb, pb, zb⟩ := I.tuple hq2
    obtain ⟨ux, hux, rux⟩ := ra.get hx
    obtain ⟨uy, huy, ruy⟩ := rb.get hy
    refine zipT_item ap q1 q2 q3 q4 q5 (show s.heap.IsTuple a as.toArray from pa) (show s.heap.IsTuple b bs.toArray from pb) (x := ux) (y := uy) (by simpa using hux) (by simpa using huy) fun h' zz oo p1' p2' np bt => ?_
    have I1 : Inv X pins σ H { s with heap := h' } := I.turnedL (t' := s.toks) (fl := [z, ti, ox, j1, j2]) (fun c o hc e => by
      simp only [List.mem_cons, List.not_mem_nil, or_false, not_or] at hc
      exact bt c o hc.1 hc.2.2.1 hc.2.2.2.1 hc.2.2.2.2 e) hf
    obtain ⟨f0, f1, f2, f3, f4, f5⟩ := I.fpOk (Nat.le_refl s.heap.objs.size) (I.hok.fresh (Nat.le_refl _))
    have n0 : X.s₀.heap.get? s.heap.objs.size = none := by
      cases q : X.s₀.heap.get? s.heap.objs.size with
      | none => rfl
      | some o => exact absurd (Nat.lt_of_lt_of_le (Heap.lt_size q) I.sz) (Nat.lt_irrefl _)
    have I2 : Inv X pins σ (upd H s.heap.objs.size (.tup [x, y])) { s with heap := h' } := I1.track f0 ⟨small (by simp), [ux, uy], .cons rux (.cons ruy .nil), ⟨_, np, rfl, _, rfl⟩⟩ f1 f4 f5 n0
    have lt : ∀ {c o}, s.heap.get? c = some o → c ≠ s.heap.objs.size := fun e => Nat.ne_of_lt (Heap.lt_size e)
    have hzT : z ≠ s.heap.objs.size := lt q1
    have ti2 : IsPair h' ti (.ref j1) (.ref j2) := bt _ _ ap.ti_z ap.ti_ox ap.ti_j1 ap.ti_j2 q2
    obtain ⟨e0, e1, e2, e3, e4, e5⟩ := hf z (by simp)
    refine ⟨_, rfl, wpAny_letOwnedTupleGo_zip zz fun h2 z2 sb => ?_⟩
    have I3 : Inv X pins σ (upd H s.heap.objs.size (.tup [x, y])) { s with heap := h2 } := Inv.turned (s := { s with heap := h' }) (h' := h2) (t' := s.toks) (it := z) I2 (fun c o hc e => sb.extBut _ _ hc e) (by rw [upd_ne hzT]; exact e0) e1 e3 e4 e5
    refine ⟨.ref s.heap.objs.size, _, I3, rfl, ⟨_, x, y, rfl, f0, rfl, fun xs' ys' k1 k2 => ?_⟩, ⟨z2, sb.extBut _ _ ap.ti_z ti2, ⟨_, _, sb.extBut _ _ ap.ox_z oo⟩, tupIt_at p1' fun o g => sb.extBut _ _ ap.j1_z g, tupIt_at p2' fun o g => sb.extBut _ _ ap.j2_z g⟩, fun c hc => ?_⟩
    · rw [I.tuple_inj k1 hq1, I.tuple_inj k2 hq2]; exact ⟨hx, hy⟩
    · have cT : c ≠ s.heap.objs.size := by
        obtain ⟨o4, g4, _⟩ := q4
        obtain ⟨o5, g5, _⟩ := q5
        simp only [List.mem_cons, List.not_mem_nil, or_false] at hc
        rcases hc with rfl | rfl | rfl | rfl | rfl
        · exact hzT
        · exact lt q2
        · exact lt q3
        · exact lt g4
        · exact lt g5
      rw [upd_ne cT]; exact (hf c hc).1
  done := by
    intro X hP hw hK hc i pins s σ H E I hf st hg
    subst hP hw hK
    obtain ⟨xs, ys, hq1, hq2, hx⟩ := hg
    obtain ⟨q1, q2, ⟨u, v, q3⟩, q4, q5⟩ := st
    obtain ⟨as, ra, pa, za⟩ := I.tuple hq1
    obtain ⟨bs, rb, pb, zb⟩ := I.tuple hq2
    have la := ra.length
    have lb := rb.length
    refine zipT_end (I.ok.hd hc) ap q1 q2 q3 q4 q5 (show s.heap.IsTuple a as.toArray from pa) (show s.heap.IsTuple b bs.toArray from pb) (by rcases hx with q | q; exact .inl (by simp; omega); exact .inr (by simp; omega)) fun h' bt => ⟨rfl, ?_⟩
    exact I.turnedL (t' := s.toks) (fl := [z, ti, ox, j1, j2]) (fun c o hc e => by
      simp only [List.mem_cons, List.not_mem_nil, or_false, not_or] at hc
      exact bt c o hc.1 hc.2.2.1 hc.2.2.2.1 hc.2.2.2.2 e) hf
  self := fun _ _ _ _ _ st h => wpAny_pyIter_zip st.1 h
abbrev zt1 (h : Heap) (a : Addr) : Heap := h.push { cls := .type "tuple_iterator", data := .fields #[.ref a, .int 0 0] }
abbrev zt2 (h : Heap) (a b : Addr) : Heap := (zt1 h a).push { cls := .type "tuple_iterator", data := .fields #[.ref b, .int 0 0] }
abbrev zt3 (h : Heap) (a b : Addr) : Heap := (zt2 h a b).push { cls := .type "tuple", data := .seq #[.ref h.objs.size, .ref (zt1 h a).objs.size] }
abbrev zt4 (h : Heap) (a b : Addr) : Heap := (zt3 h a b).push { cls := .type "tuple", data := .seq #[.none, .none] }
abbrev zt5 (h : Heap) (a b : Addr) : Heap := (zt4 h a b).push { cls := .type "zip", data := .fields #[.none, .bool false, .bool false, .ref (zt2 h a b).objs.size, .ref (zt3 h a b).objs.size] }
theorem zipT_new (a b : Addr) (as bs : Array Value) : Meets (Builtin.«zip.__new__» ⟨[.type "zip", .ref a, .ref b], []⟩) (fun _ R s => s.heap.IsTuple a as ∧ s.heap.IsTuple b bs ∧ R (.ok (.ret (.ref (zt4 s.heap a b).objs.size))) { s with heap := zt5 s.heap a b }) :=
  .of_wp fun prog w A R s h => by
    obtain ⟨hp, g, d, tk, os⟩ := s
    obtain ⟨ha, hb, h⟩ := h
    have q0 := sub_zip
    have q1 : Heap.IsTuple (Shared.heap ⟨hp, g, d, tk, os⟩) a as := ha
    have q2 : Heap.IsTuple (Shared.heap ⟨hp.push { cls := .type "tuple_iterator", data := .fields #[.ref a, .int 0 0] }, g, d, tk, os⟩) b bs := tup_at hb fun o e => Heap.get?_push_of_some _ e
    wp_walk using wpAny_pyIter_tuple q1, wpAny_pyIter_tuple q2
    exact ⟨_, rfl, h⟩
theorem zipT_call {pg : Program} {wd : World} {B : Around} {X0 : Value → Shared → Prop} {s0 : Shared} {a b : Addr} {as bs : Array Value} {R : Value → Shared → Prop} (ha : s0.heap.IsTuple a as) (hb : s0.heap.IsTuple b bs)
    (f : ∀ h', IsZip h' (s0.heap.objs.size + 4) (s0.heap.objs.size + 2) (s0.heap.objs.size + 3) .none → IsPair h' (s0.heap.objs.size + 2) (.ref s0.heap.objs.size) (.ref (s0.heap.objs.size + 1)) → IsPair h' (s0.heap.objs.size + 3) .none .none →
      h'.IsTupleIter s0.heap.objs.size a 0 → h'.IsTupleIter (s0.heap.objs.size + 1) b 0 → (∀ c o, s0.heap.get? c = some o → h'.get? c = some o) → R (.ref (s0.heap.objs.size + 4)) { s0 with heap := h' }) :
    wpAny (model pg wd) B (call (.type "zip") [.ref a, .ref b]) R X0 s0 := by
  refine callType_new F.called_zip (by decide) (F.typeCall_zip_2 _ _) (F.newCall_zip_2 _ _) (fun ob => F.args_object_init_3 ob _ _) F.entry_zip_new (zipT_new a b as bs) ⟨ha, hb, ?_⟩
  have n1 : (zt1 s0.heap a).objs.size = s0.heap.objs.size + 1 := Heap.size_push ..
  have n2 : (zt2 s0.heap a b).objs.size = s0.heap.objs.size + 2 := by rw [Heap.size_push, n1]
  have n3 : (zt3 s0.heap a b).objs.size = s0.heap.objs.size + 3 := by rw [Heap.size_push, n2]
  have n4 : (zt4 s0.heap a b).objs.size = s0.heap.objs.size + 4 := by rw [Heap.size_push, n3]
  have g5 : (zt5 s0.heap a b).get? (zt4 s0.heap a b).objs.size = some _ := Heap.get?_push_size _ rfl
  have g4 : (zt5 s0.heap a b).get? (zt3 s0.heap a b).objs.size = some _ := Heap.get?_push_of_some _ (Heap.get?_push_size _ rfl)
  have g3 : (zt5 s0.heap a b).get? (zt2 s0.heap a b).objs.size = some _ := Heap.get?_push_of_some _ (Heap.get?_push_of_some _ (Heap.get?_push_size _ rfl))
  have g2 : (zt5 s0.heap a b).get? (zt1 s0.heap a).objs.size = some _ := Heap.get?_push_of_some _ (Heap.get?_push_of_some _ (Heap.get?_push_of_some _ (Heap.get?_push_size _ rfl)))
  have g1 : (zt5 s0.heap a b).get? s0.heap.objs.size = some _ := Heap.get?_push_of_some _ (Heap.get?_push_of_some _ (Heap.get?_push_of_some _ (Heap.get?_push_of_some _ (Heap.get?_push_size _ rfl))))
  show _ ∧ _
  rw [n2, n3, n4] at g5
  rw [n1, n2] at g3
  rw [n3] at g4
  rw [n1] at g2
  rw [n4]
  exact ⟨⟨_, g5, rfl⟩, f _ g5 g3 g4 ⟨_, g1, rfl, rfl⟩ ⟨_, g2, rfl, rfl⟩ fun c o q => Heap.get?_push_of_some _ (Heap.get?_push_of_some _ (Heap.get?_push_of_some _ (Heap.get?_push_of_some _ (Heap.get?_push_of_some _ q))))⟩
theorem apart_of (n a b : Nat) (ha : a < n) (hb : b < n) : Apart5 (n + 4) (n + 2) (n + 3) n (n + 1) a b := by
  constructor <;> first | exact Nat.ne_of_lt (by omega) | exact Nat.ne_of_gt (by omega)
section
variable {X : Cx} {es : List Expr} {x1 : Nat} {pp : Pos}
def iZip (K : PySem.W.Frag) (ta : TA) : TI := fun σ H R => ta σ H fun vs H1 => ∃ a b xs ys, vs = [.ref a, .ref b] ∧ SqT K H1 a xs ∧ SqT K H1 b ys ∧ R (Itz K a b) H1
theorem pi_zip {e1 e2 : Expr} {ta : TA} {p pos : Pos} (hg : Gl X "zip") (hm : X.mg "zip" = none) (ha : PA X [e1, e2] ta) (hs : starEach [e1, e2] X.env = [(false, eval e1 X.env), (false, eval e2 X.env)] := by rfl) (hs2 : starEach [e2] X.env = [(false, eval e2 X.env)] := by rfl) :
    PI X (.Tuple es x1 pp) (.Call (.Name "zip" p) [e1, e2] [] pos) (iZip X.K ta) := by
  intro pins s σ H R I h
  have hA := ha pos pins s σ H _ I h
  refine Call_ (ld_blt I hg hm boot_zip (PyProof.Rows.callWith_type1 (thn hA fun us s1 ⟨vs, H1, I1, r1, q1⟩ => ?_) (by rw [hs, hs2]) (by rw [hs2]; rfl)))
  obtain ⟨a, b, xs, ys, rfl, ha, hb, q⟩ := q1
  obtain ⟨u, u', rfl, ra, rb⟩ := vals2 r1
  cases (show u = Value.ref a from ra)
  cases (show u' = Value.ref b from rb)
  obtain ⟨as, va, pa, za⟩ := I1.tuple ha
  obtain ⟨bs, vb, pb, zb⟩ := I1.tuple hb
  have al : a < s1.heap.objs.size := by obtain ⟨o, g, _⟩ := pa; exact Heap.lt_size g
  have bl : b < s1.heap.objs.size := by obtain ⟨o, g, _⟩ := pb; exact Heap.lt_size g
  refine zipT_call (show s1.heap.IsTuple a as.toArray from pa) (show s1.heap.IsTuple b bs.toArray from pb) fun h' w1 w2 w3 w4 w5 kk => ?_
  have I2 : Inv X pins σ H1 { s1 with heap := h' } := I1.kept (t' := s1.toks) kk
  have ap := apart_of s1.heap.objs.size a b al bl
  refine wpAny_pyIter_zip w1 ⟨s1.heap.objs.size + 4, [s1.heap.objs.size + 4, s1.heap.objs.size + 2, s1.heap.objs.size + 3, s1.heap.objs.size, s1.heap.objs.size + 1], _, _, H1, rfl, I2, turn_zip ap, ⟨w1, w2, ⟨_, _, w3⟩, w4, w5⟩, fun c hc => ?_, q⟩
  have ge : s1.heap.objs.size ≤ c := by
    simp only [List.mem_cons, List.not_mem_nil, or_false] at hc
    rcases hc with rfl | rfl | rfl | rfl | rfl <;> omega
  exact I1.fpOk ge (I1.hok.fresh ge)
end
def LoopZ (K : PySem.W.Frag) (g : TG) (tb : TS) (D : Ends) (σ : St) (vs : List V) (H1 : Hp) : Prop := ∃ a b xs ys, vs = [.ref a, .ref b] ∧ SqT K H1 a xs ∧ SqT K H1 b ys ∧ ∃ W : Nat → Nat → St → Hp → Prop, (∃ m, W 0 m σ H1) ∧ ∀ i m σ H, W i m σ H →
  ((Itz K a b).stop i H ∧ D.nx σ H) ∨ ((Itz K a b).go i H ∧ ∃ N : St → Hp → Prop, (∀ σ' H', N σ' H' → ∃ m', m' < m ∧ W (i + 1) m' σ' H') ∧ ∀ x H', (Itz K a b).yld i H x H' → g x σ H' fun σ2 H2 => tb { D with nx := N, ct := N, bk := D.nx } σ2 H2)
theorem for_eqZ {K : PySem.W.Frag} {ta : TA} {g : TG} {tb : TS} {D : Ends} {σ : St} {H : Hp} : tFor (iZip K ta) g tb D σ H = ta σ H fun vs H1 => LoopZ K g tb D σ vs H1 := rfl
theorem LoopZ.mk {K : PySem.W.Frag} {a b : Addr} {xs ys : List V} {g : TG} {tb : TS} {D : Ends} {σ : St} {H : Hp} (n : Nat) (hn : n = min xs.length ys.length) (h1 : SqT K H a xs) (h2 : SqT K H b ys) (Pv : Nat → St → Hp → Prop) (h0 : Pv 0 σ H) (hl : ∀ i σ H, i ≤ n → Pv i σ H → SqT K H a xs ∧ SqT K H b ys)
    (hs : ∀ i x y σ H T, i < n → xs[i]? = some x → ys[i]? = some y → Pv i σ H → H T = none → g (.ref T) σ (upd H T (.tup [x, y])) fun σ2 H2 => tb { D with nx := Pv (i + 1), ct := Pv (i + 1), bk := D.nx } σ2 H2) (hd : ∀ σ H, Pv n σ H → D.nx σ H) :
    LoopZ K g tb D σ [.ref a, .ref b] H := by
  subst hn
  refine ⟨a, b, xs, ys, rfl, h1, h2, fun i m σ H => m = min xs.length ys.length - i ∧ i ≤ min xs.length ys.length ∧ Pv i σ H, ⟨_, rfl, Nat.zero_le _, h0⟩, ?_⟩
  rintro i m σ H ⟨rfl, hi, p⟩
  obtain ⟨k1, k2⟩ := hl i σ H hi p
  by_cases hlt : i < min xs.length ys.length
  · have l1 : i < xs.length := by omega
    have l2 : i < ys.length := by omega
    refine .inr ⟨⟨xs, ys, _, _, k1, k2, List.getElem?_eq_getElem l1, List.getElem?_eq_getElem l2⟩, Pv (i + 1), fun σ' H' p' => ⟨min xs.length ys.length - (i + 1), by omega, rfl, hlt, p'⟩, fun v H' yy => ?_⟩
    obtain ⟨T, x, y, rfl, hT, rfl, ex⟩ := yy
    obtain ⟨ex1, ex2⟩ := ex xs ys k1 k2
    exact hs i x y σ H T hlt ex1 ex2 p hT
  · have e : i = min xs.length ys.length := by omega
    exact .inl ⟨⟨xs, ys, k1, k2, by omega⟩, hd σ H (e ▸ p)⟩
def CompZ (K : PySem.W.Frag) (k : Nat) (js : List Nat) (g : TG) (te : TE) (σ : St) (vs : List V) (H1 : Hp) (Q : VK) : Prop := ∃ a b xs ys, vs = [.ref a, .ref b] ∧ SqT K H1 a xs ∧ SqT K H1 b ys ∧ ∃ W : Nat → Nat → List V → St → Hp → Prop, (∃ m, W 0 m [] (compSt k js σ) H1) ∧ ∀ i m zs σ' H', W i m zs σ' H' →
    ((Itz K a b).stop i H' ∧ ∀ p, H' p = none → Q (.ref p) (upd H' p (.lst zs))) ∨
    ((Itz K a b).go i H' ∧ zs.length < sizeLine ∧ ∃ N : List V → St → Hp → Prop, (∀ zs σ2 H2, N zs σ2 H2 → ∃ m', m' < m ∧ W (i + 1) m' zs σ2 H2) ∧ ∀ x H2, (Itz K a b).yld i H' x H2 → g x σ' H2 fun σ3 H3 => te σ3 H3 fun v H4 => N (zs ++ [v]) σ3 H4)
theorem comp_eqZ {K : PySem.W.Frag} {k : Nat} {js : List Nat} {ta : TA} {g : TG} {te : TE} {σ : St} {H : Hp} {Q : VK} : tComp (iZip K ta) k js g te σ H Q = ta σ H fun vs H1 => CompZ K k js g te σ vs H1 Q := rfl
theorem CompZ.mk {K : PySem.W.Frag} {a b : Addr} {xs ys : List V} {k : Nat} {js : List Nat} {g : TG} {te : TE} {Q : VK} {σ : St} {H : Hp} (n : Nat) (hn : n = min xs.length ys.length) (h1 : SqT K H a xs) (h2 : SqT K H b ys) (Pv : Nat → List V → St → Hp → Prop) (h0 : Pv 0 [] (compSt k js σ) H) (hl : ∀ i zs σ H, i ≤ n → Pv i zs σ H → SqT K H a xs ∧ SqT K H b ys)
    (hs : ∀ i x y zs σ H T, i < n → xs[i]? = some x → ys[i]? = some y → Pv i zs σ H → H T = none → zs.length < sizeLine ∧ g (.ref T) σ (upd H T (.tup [x, y])) fun σ3 H3 => te σ3 H3 fun v H4 => Pv (i + 1) (zs ++ [v]) σ3 H4) (hz : ∀ zs σ H, Pv n zs σ H → ∀ p, H p = none → Q (.ref p) (upd H p (.lst zs))) (hlen : ∀ i zs σ H, Pv i zs σ H → zs.length < sizeLine) :
    CompZ K k js g te σ [.ref a, .ref b] H Q := by
  subst hn
  refine ⟨a, b, xs, ys, rfl, h1, h2, fun i m zs σ H => m = min xs.length ys.length - i ∧ i ≤ min xs.length ys.length ∧ Pv i zs σ H, ⟨_, rfl, Nat.zero_le _, h0⟩, ?_⟩
  rintro i m zs σ H ⟨rfl, hi, p⟩
  obtain ⟨k1, k2⟩ := hl i zs σ H hi p
  by_cases hlt : i < min xs.length ys.length
  · have l1 : i < xs.length := by omega
    have l2 : i < ys.length := by omega
    refine .inr ⟨⟨xs, ys, _, _, k1, k2, List.getElem?_eq_getElem l1, List.getElem?_eq_getElem l2⟩, hlen _ _ _ _ p, Pv (i + 1), fun zs' σ' H' p' => ⟨min xs.length ys.length - (i + 1), by omega, rfl, hlt, p'⟩, fun v H' yy => ?_⟩
    obtain ⟨T, x, y, rfl, hT, rfl, ex⟩ := yy
    obtain ⟨ex1, ex2⟩ := ex xs ys k1 k2
    exact (hs i x y zs σ H T hlt ex1 ex2 p hT).2
  · have e : i = min xs.length ys.length := by omega
    exact .inl ⟨⟨xs, ys, k1, k2, by omega⟩, hz zs σ H (e ▸ p)⟩
end L2
namespace L2
open PySem PySem.Spec PyProof.Rows
section
variable {X : Cx}
theorem call_sumL (hc : X.calm = true) : CallR X (.builtin "sum") (fun xs H Q => ∃ (a : Addr) (ns : List Int), xs = [.ref a] ∧ SqL X.K H a (ns.map V.int) ∧ Q (.int ns.sum) H) := by
  intro pins s σ H xs us Q I r h
  obtain ⟨a, ns, rfl, hq, q⟩ := h
  obtain ⟨u, rfl, ru⟩ := vals1 r
  cases (show u = Value.ref a from ru)
  obtain ⟨its, rv, pl, hz⟩ := I.list hq
  have hi := intsAre_of rv
  have hn := hi.numsOf
  obtain ⟨ps, e⟩ := hi.allInts.items
  have hl : s.heap.IsList a (intItems ps) := e ▸ pl.isList
  refine sum_intListG (I.ok.hd hc) hl fun h' tk t' kk => ?_
  have e2 : preSum (numAt ps) ps.size = ns.sum := by
    rw [preSum_eq, List.take_of_length_le (by simp), ← nums_intItems, ← e]
    exact congrArg List.sum hn
  rw [e2]
  exact ⟨.int ns.sum, H, I.kept kk, ⟨t', rfl⟩, q⟩
def Its (lo st : Int) (n : Nat) : It := ⟨fun i _ => i < n, fun i H x H' => H' = H ∧ x = .int (lo + i * st), fun i _ => n ≤ i⟩
def iRng3 (ta : TA) : TI := fun σ H R => ta σ H fun vs H1 => ∃ i j c : Int, vs = [.int i, .int j, .int c] ∧ (c ≠ 0 ∧ c.natAbs < 1073741824 ∧ Builtin.Range.small i j c = true) ∧ R (Its i c (Builtin.Range.rangeSize i j c).toNat) H1
end
def LoopS (lo st : Int) (n : Nat) (g : TG) (tb : TS) (D : Ends) (σ : St) (H1 : Hp) : Prop := ∃ W : Nat → Nat → St → Hp → Prop, (∃ m, W 0 m σ H1) ∧ ∀ i m σ H, W i m σ H →
  ((Its lo st n).stop i H ∧ D.nx σ H) ∨ ((Its lo st n).go i H ∧ ∃ N : St → Hp → Prop, (∀ σ' H', N σ' H' → ∃ m', m' < m ∧ W (i + 1) m' σ' H') ∧ ∀ x H', (Its lo st n).yld i H x H' → g x σ H' fun σ2 H2 => tb { D with nx := N, ct := N, bk := D.nx } σ2 H2)
theorem for_eqR3 {ta : TA} {g : TG} {tb : TS} {D : Ends} {σ : St} {H : Hp} : tFor (iRng3 ta) g tb D σ H = ta σ H fun vs H1 => ∃ i j c : Int, vs = [.int i, .int j, .int c] ∧ (c ≠ 0 ∧ c.natAbs < 1073741824 ∧ Builtin.Range.small i j c = true) ∧ LoopS i c (Builtin.Range.rangeSize i j c).toNat g tb D σ H1 := rfl
theorem LoopS.mk {lo st : Int} {n : Nat} {g : TG} {tb : TS} {D : Ends} {σ : St} {H : Hp} (Pv : Nat → St → Hp → Prop) (h0 : Pv 0 σ H)
    (hs : ∀ i σ H, i < n → Pv i σ H → g (.int (lo + i * st)) σ H fun σ2 H2 => tb { D with nx := Pv (i + 1), ct := Pv (i + 1), bk := D.nx } σ2 H2) (hd : ∀ σ H, Pv n σ H → D.nx σ H) : LoopS lo st n g tb D σ H := by
  refine ⟨fun i m σ H => m = n - i ∧ i ≤ n ∧ Pv i σ H, ⟨_, rfl, Nat.zero_le _, h0⟩, ?_⟩
  rintro i m σ H ⟨rfl, hi, p⟩
  by_cases hlt : i < n
  · refine .inr ⟨hlt, Pv (i + 1), fun σ' H' p' => ⟨n - (i + 1), by omega, rfl, hlt, p'⟩, fun v H' yy => ?_⟩
    obtain ⟨rfl, rfl⟩ := yy
    exact hs i σ _ hlt p
  · have e : i = n := by omega
    exact .inl ⟨(show n ≤ i by omega), hd σ H (e ▸ p)⟩
def CompS (lo st : Int) (n k : Nat) (js : List Nat) (g : TG) (te : TE) (σ : St) (H1 : Hp) (Q : VK) : Prop := ∃ W : Nat → Nat → List V → St → Hp → Prop, (∃ m, W 0 m [] (compSt k js σ) H1) ∧ ∀ i m ys σ' H', W i m ys σ' H' →
    ((Its lo st n).stop i H' ∧ ∀ p, H' p = none → Q (.ref p) (upd H' p (.lst ys))) ∨
    ((Its lo st n).go i H' ∧ ys.length < sizeLine ∧ ∃ N : List V → St → Hp → Prop, (∀ zs σ2 H2, N zs σ2 H2 → ∃ m', m' < m ∧ W (i + 1) m' zs σ2 H2) ∧ ∀ x H2, (Its lo st n).yld i H' x H2 → g x σ' H2 fun σ3 H3 => te σ3 H3 fun v H4 => N (ys ++ [v]) σ3 H4)
theorem comp_eqR3 {k : Nat} {js : List Nat} {ta : TA} {g : TG} {te : TE} {σ : St} {H : Hp} {Q : VK} : tComp (iRng3 ta) k js g te σ H Q = ta σ H fun vs H1 => ∃ i j c : Int, vs = [.int i, .int j, .int c] ∧ (c ≠ 0 ∧ c.natAbs < 1073741824 ∧ Builtin.Range.small i j c = true) ∧ CompS i c (Builtin.Range.rangeSize i j c).toNat k js g te σ H1 Q := rfl
theorem CompS.mk {lo st : Int} {n k : Nat} {js : List Nat} {g : TG} {te : TE} {Q : VK} {σ : St} {H : Hp} (Pv : Nat → List V → St → Hp → Prop) (h0 : Pv 0 [] (compSt k js σ) H) (hlen : ∀ i ys σ H, Pv i ys σ H → ys.length < sizeLine)
    (hs : ∀ i ys σ H, i < n → Pv i ys σ H → g (.int (lo + i * st)) σ H fun σ3 H3 => te σ3 H3 fun v H4 => Pv (i + 1) (ys ++ [v]) σ3 H4) (hd : ∀ ys σ H, Pv n ys σ H → ∀ p, H p = none → Q (.ref p) (upd H p (.lst ys))) : CompS lo st n k js g te σ H Q := by
  refine ⟨fun i m ys σ H => m = n - i ∧ i ≤ n ∧ Pv i ys σ H, ⟨_, rfl, Nat.zero_le _, h0⟩, ?_⟩
  rintro i m ys σ H ⟨rfl, hi, p⟩
  by_cases hlt : i < n
  · refine .inr ⟨hlt, hlen _ _ _ _ p, Pv (i + 1), fun zs σ' H' p' => ⟨n - (i + 1), by omega, rfl, hlt, p'⟩, fun v H' yy => ?_⟩
    obtain ⟨rfl, rfl⟩ := yy
    exact hs i ys σ _ hlt p
  · have e : i = n := by omega
    exact .inl ⟨(show n ≤ i by omega), hd ys σ H (e ▸ p)⟩
end L2
namespace L2
open PySem PySem.Spec PyProof.Rows
theorem has_of {names : List (Str × NameKind)} {cl : List (Str × Addr)} (h : names.all (fun y => match y.2 with | .cell => (cl.lookup y.1).isSome | .free => (cl.lookup y.1).isSome | _ => true) = true) :
    ∀ x, (names.lookup x = some .cell ∨ names.lookup x = some .free) → ∃ c, cl.lookup x = some c := by
  intro x hx
  have z := List.all_eq_true.mp h
  rcases hx with hx | hx
  · exact Option.isSome_iff_exists.mp (z _ (PySem.mem_of_lookup hx))
  · exact Option.isSome_iff_exists.mp (z _ (PySem.mem_of_lookup hx))
theorem cap1 {X : Cx} {scope : Scope} {cl : List (Str × Addr)} {x0 : Str} {j0 : Nat} (c0 : Cap X scope cl x0 j0) : ∀ (i : Nat) x j, [x0][i]? = some x → [j0][i]? = some j → Cap X scope cl x j
  | 0, _, _, h1, h2 => by cases h1; cases h2; exact c0
  | _ + 1, _, _, h1, _ => by cases h1
theorem cap2 {X : Cx} {scope : Scope} {cl : List (Str × Addr)} {x0 x1 : Str} {j0 j1 : Nat} (c0 : Cap X scope cl x0 j0) (c1 : Cap X scope cl x1 j1) : ∀ (i : Nat) x j, [x0, x1][i]? = some x → [j0, j1][i]? = some j → Cap X scope cl x j
  | 0, _, _, h1, h2 => by cases h1; cases h2; exact c0
  | 1, _, _, h1, h2 => by cases h1; cases h2; exact c1
  | _ + 2, _, _, h1, _ => by cases h1
end L2
namespace L2
open PySem PySem.Spec PyProof.Rows
section
variable {prog : Program} {w : World} {A : Around} {R : Result → Shared → Prop} {s : Shared}
end
def tCompI (wi : TI) (k : Nat) (js : List Nat) (g : TG) (tc : TT) (te : TE) : TE := fun σ H Q => wi σ H fun J H1 =>
  ∃ W : Nat → Nat → List V → St → Hp → Prop, (∃ m, W 0 m [] (compSt k js σ) H1) ∧ ∀ i m ys σ' H', W i m ys σ' H' →
    (J.stop i H' ∧ ∀ p, H' p = none → Q (.ref p) (upd H' p (.lst ys))) ∨
    (J.go i H' ∧ ys.length < sizeLine ∧ ∃ N : List V → St → Hp → Prop, (∀ zs σ2 H2, N zs σ2 H2 → ∃ m', m' < m ∧ W (i + 1) m' zs σ2 H2) ∧
      ∀ x H2, J.yld i H' x H2 → g x σ' H2 fun σ3 H3 => tc σ3 H3 fun b H4 => if b = true then te σ3 H4 fun v H5 => N (ys ++ [v]) σ3 H5 else N ys σ3 H4)
end L2
namespace L2
open PySem PySem.Spec PyProof.Rows
section
variable {pg : Program} {wd : World} {B : Around} {X0 : Value → Shared → Prop} {s0 : Shared}
end
def Ite (K : PySem.W.Frag) (a : Addr) : It := ⟨fun i H => ∃ xs x, SqT K H a xs ∧ xs[i]? = some x,
  fun i H v H' => ∃ T x, v = .ref T ∧ H T = none ∧ H' = upd H T (.tup [.int i, x]) ∧ ∀ xs, SqT K H a xs → xs[i]? = some x, fun i H => ∃ xs, SqT K H a xs ∧ xs.length ≤ i⟩
section
variable {X : Cx} {es : List Expr} {x1 : Nat} {pp : Pos}
def iEnum (K : PySem.W.Frag) (te : TE) : TI := fun σ H R => te σ H fun v H1 => ∃ a xs, v = .ref a ∧ SqT K H1 a xs ∧ R (Ite K a) H1
end
def CompE (K : PySem.W.Frag) (k : Nat) (js : List Nat) (g : TG) (te : TE) (σ : St) (v : V) (H1 : Hp) (Q : VK) : Prop := ∃ a xs, v = .ref a ∧ SqT K H1 a xs ∧ ∃ W : Nat → Nat → List V → St → Hp → Prop, (∃ m, W 0 m [] (compSt k js σ) H1) ∧ ∀ i m zs σ' H', W i m zs σ' H' →
    ((Ite K a).stop i H' ∧ ∀ p, H' p = none → Q (.ref p) (upd H' p (.lst zs))) ∨
    ((Ite K a).go i H' ∧ zs.length < sizeLine ∧ ∃ N : List V → St → Hp → Prop, (∀ zs σ2 H2, N zs σ2 H2 → ∃ m', m' < m ∧ W (i + 1) m' zs σ2 H2) ∧ ∀ x H2, (Ite K a).yld i H' x H2 → g x σ' H2 fun σ3 H3 => te σ3 H3 fun v H4 => N (zs ++ [v]) σ3 H4)
theorem comp_eqE {K : PySem.W.Frag} {k : Nat} {js : List Nat} {tx : TE} {g : TG} {te : TE} {σ : St} {H : Hp} {Q : VK} : tComp (iEnum K tx) k js g te σ H Q = tx σ H fun v H1 => CompE K k js g te σ v H1 Q := rfl
theorem CompE.mk {K : PySem.W.Frag} {a : Addr} {xs : List V} {k : Nat} {js : List Nat} {g : TG} {te : TE} {Q : VK} {σ : St} {H : Hp} (h1 : SqT K H a xs) (Pv : Nat → List V → St → Hp → Prop) (h0 : Pv 0 [] (compSt k js σ) H) (hl : ∀ i zs σ H, i ≤ xs.length → Pv i zs σ H → SqT K H a xs ∧ zs.length < sizeLine)
    (hs : ∀ i x zs σ H T, xs[i]? = some x → Pv i zs σ H → H T = none → g (.ref T) σ (upd H T (.tup [.int i, x])) fun σ3 H3 => te σ3 H3 fun v H4 => Pv (i + 1) (zs ++ [v]) σ3 H4) (hz : ∀ zs σ H, Pv xs.length zs σ H → ∀ p, H p = none → Q (.ref p) (upd H p (.lst zs))) :
    CompE K k js g te σ (.ref a) H Q := by
  refine ⟨a, xs, rfl, h1, fun i m zs σ H => m = xs.length - i ∧ i ≤ xs.length ∧ Pv i zs σ H, ⟨_, rfl, Nat.zero_le _, h0⟩, ?_⟩
  rintro i m zs σ H ⟨rfl, hi, p⟩
  obtain ⟨k1, k2⟩ := hl i zs σ H hi p
  by_cases hlt : i < xs.length
  · refine .inr ⟨⟨xs, _, k1, List.getElem?_eq_getElem hlt⟩, k2, Pv (i + 1), fun zs' σ' H' p' => ⟨xs.length - (i + 1), by omega, rfl, hlt, p'⟩, fun v H' yy => ?_⟩
    obtain ⟨T, x, rfl, hT, rfl, ex⟩ := yy
    exact hs i x zs σ H T (ex xs k1) p hT
  · have e : i = xs.length := by omega
    exact .inl ⟨⟨xs, k1, by omega⟩, hz zs σ H (e ▸ p)⟩
def CompEI (K : PySem.W.Frag) (k : Nat) (js : List Nat) (g : TG) (tc : TT) (te : TE) (σ : St) (v : V) (H1 : Hp) (Q : VK) : Prop := ∃ a xs, v = .ref a ∧ SqT K H1 a xs ∧ ∃ W : Nat → Nat → List V → St → Hp → Prop, (∃ m, W 0 m [] (compSt k js σ) H1) ∧ ∀ i m zs σ' H', W i m zs σ' H' →
    ((Ite K a).stop i H' ∧ ∀ p, H' p = none → Q (.ref p) (upd H' p (.lst zs))) ∨
    ((Ite K a).go i H' ∧ zs.length < sizeLine ∧ ∃ N : List V → St → Hp → Prop, (∀ zs σ2 H2, N zs σ2 H2 → ∃ m', m' < m ∧ W (i + 1) m' zs σ2 H2) ∧ ∀ x H2, (Ite K a).yld i H' x H2 → g x σ' H2 fun σ3 H3 => tc σ3 H3 fun b H4 => if b = true then te σ3 H4 fun v H5 => N (zs ++ [v]) σ3 H5 else N zs σ3 H4)
theorem comp_eqEI {K : PySem.W.Frag} {k : Nat} {js : List Nat} {tx : TE} {g : TG} {tc : TT} {te : TE} {σ : St} {H : Hp} {Q : VK} : tCompI (iEnum K tx) k js g tc te σ H Q = tx σ H fun v H1 => CompEI K k js g tc te σ v H1 Q := rfl
theorem CompEI.mk {K : PySem.W.Frag} {a : Addr} {xs : List V} {k : Nat} {js : List Nat} {g : TG} {tc : TT} {te : TE} {Q : VK} {σ : St} {H : Hp} (h1 : SqT K H a xs) (Pv : Nat → List V → St → Hp → Prop) (h0 : Pv 0 [] (compSt k js σ) H) (hl : ∀ i zs σ H, i ≤ xs.length → Pv i zs σ H → SqT K H a xs ∧ zs.length < sizeLine)
    (hs : ∀ i x zs σ H T, xs[i]? = some x → Pv i zs σ H → H T = none → g (.ref T) σ (upd H T (.tup [.int i, x])) fun σ3 H3 => tc σ3 H3 fun b H4 => if b = true then te σ3 H4 fun v H5 => Pv (i + 1) (zs ++ [v]) σ3 H5 else Pv (i + 1) zs σ3 H4) (hz : ∀ zs σ H, Pv xs.length zs σ H → ∀ p, H p = none → Q (.ref p) (upd H p (.lst zs))) :
    CompEI K k js g tc te σ (.ref a) H Q := by
  refine ⟨a, xs, rfl, h1, fun i m zs σ H => m = xs.length - i ∧ i ≤ xs.length ∧ Pv i zs σ H, ⟨_, rfl, Nat.zero_le _, h0⟩, ?_⟩
  rintro i m zs σ H ⟨rfl, hi, p⟩
  obtain ⟨k1, k2⟩ := hl i zs σ H hi p
  by_cases hlt : i < xs.length
  · refine .inr ⟨⟨xs, _, k1, List.getElem?_eq_getElem hlt⟩, k2, Pv (i + 1), fun zs' σ' H' p' => ⟨xs.length - (i + 1), by omega, rfl, hlt, p'⟩, fun v H' yy => ?_⟩
    obtain ⟨T, x, rfl, hT, rfl, ex⟩ := yy
    exact hs i x zs σ H T (ex xs k1) p hT
  · have e : i = xs.length := by omega
    exact .inl ⟨⟨xs, k1, by omega⟩, hz zs σ H (e ▸ p)⟩
end L2
namespace L2
open PySem PySem.Spec PyProof.Rows
section
variable {X : Cx}
def rNeT (K : PySem.W.Frag) : R2 := fun x y H Q => ∃ a b xs ys, x = .ref a ∧ y = .ref b ∧ SqT K H a xs ∧ SqT K H b ys ∧ xs.all flatV = true ∧ ys.all flatV = true ∧ Q (.bl (!eqVs xs ys)) H
def rNeL (K : PySem.W.Frag) : R2 := fun x y H Q => ∃ a b xs ys, x = .ref a ∧ y = .ref b ∧ SqL K H a xs ∧ SqL K H b ys ∧ xs.all flatV = true ∧ ys.all flatV = true ∧ Q (.bl (!eqVs xs ys)) H
end
theorem cl_sub1 {cells : List (Str × Addr)} {y : Str} {a : Addr} (h : cells.lookup y = some a) : ∀ x c, [(y, a)].lookup x = some c → cells.lookup x = some c := fun x c e => by
  cases List.mem_singleton.mp (PySem.mem_of_lookup e); exact h
theorem cl_sub2 {cells : List (Str × Addr)} {y z : Str} {a b : Addr} (h : cells.lookup y = some a) (h2 : cells.lookup z = some b) : ∀ x c, [(y, a), (z, b)].lookup x = some c → cells.lookup x = some c := fun x c e => by
  rcases List.mem_cons.mp (PySem.mem_of_lookup e) with q | q
  · cases q; exact h
  · cases List.mem_singleton.mp q; exact h2
end L2
namespace L2
open PySem PySem.Spec PyProof.Rows
def okS (k : Nat) (x : Str) : Prop := x.length ≤ k ∧ ∀ c ∈ x.cps.toList, c < 1000
theorem okS.mono {k m : Nat} {x : Str} (h : okS k x) (l : k ≤ m) : okS m x := ⟨Nat.le_trans h.1 l, h.2⟩
theorem okS.repr {k : Nat} {x : Str} (h : okS k x) : (reprText x).length ≤ 10 * k + 2 := by
  have := StrLaws.reprText_len x fun c hc => Nat.lt_of_lt_of_le (h.2 c hc) (by decide)
  have := h.1
  omega
section
variable {X : Cx}
def tFR (t1 t2 : TE) : TE := fun σ H Q => t1 σ H fun x H1 => ∃ a, x = .str a ∧ okS 1000 a ∧ t2 σ H1 fun y H2 => ∃ b, y = .str b ∧ okS 1000 b ∧ ∀ z, Q (.str z) H2
def rSlStr : V → Option Int → Option Int → Hp → VK → Prop := fun x lo hi H Q => ∃ z, x = .str z ∧ z.length ≤ 1000 ∧ ∀ y : Str, y.length ≤ z.length → (∀ c ∈ y.cps.toList, c ∈ z.cps.toList) → Q (.str y) H
def rUpper : V → List V → Hp → VK → Prop := fun x xs H Q => ∃ z, x = .str z ∧ xs = [] ∧ okS 1000 ⟨placed z fun _ c => Unicode.upperOf c⟩ ∧ Q (.str ⟨placed z fun _ c => Unicode.upperOf c⟩) H
theorem ok_glued (sep : Str) (h0 : sep.length = 0) : ∀ (ys : List Str), ys.length ≤ 100 → (∀ y ∈ ys, okS 10 y) → okS 1000 (Builtin.Str.glued sep ys) := by
  have hs : sep.cps.toList = [] := List.eq_nil_of_length_eq_zero (by rw [Array.length_toList]; exact h0)
  have all : ∀ (ys : List Str) (a : Array Nat) (n : Nat), a.size ≤ n → (∀ c ∈ a.toList, c < 1000) → (∀ y ∈ ys, okS 10 y) → (ys.foldl (fun acc p => acc ++ sep.cps ++ p.cps) a).size ≤ n + 10 * ys.length ∧ ∀ c ∈ (ys.foldl (fun acc p => acc ++ sep.cps ++ p.cps) a).toList, c < 1000 := by
    intro ys
    induction ys with
    | nil => intro a n h1 h2 _; exact ⟨by simpa using h1, h2⟩
    | cons y r ih =>
      intro a n h1 h2 h3
      have oy := h3 y (List.mem_cons_self ..)
      have yl : y.cps.size ≤ 10 := oy.1
      have sz : sep.cps.size = 0 := h0
      have := ih (a ++ sep.cps ++ y.cps) (n + 10) (by simp; omega) (fun c hc => by
        simp only [Array.toList_append, List.mem_append] at hc
        rcases hc with (hc | hc) | hc
        · exact h2 c hc
        · rw [hs] at hc; cases hc
        · exact oy.2 c hc) fun z hz => h3 z (List.mem_cons_of_mem _ hz)
      refine ⟨?_, this.2⟩
      have t1 := this.1
      simp only [List.length_cons, List.foldl_cons]
      omega
  intro ys hl h
  cases ys with
  | nil => exact ⟨(show Str.empty.length ≤ 1000 by decide), fun c hc => nomatch hc⟩
  | cons y r =>
    have oy := h y (List.mem_cons_self ..)
    obtain ⟨z1, z2⟩ := all r y.cps 10 oy.1 oy.2 fun z hz => h z (List.mem_cons_of_mem _ hz)
    refine ⟨?_, z2⟩
    show (r.foldl (fun acc p => acc ++ sep.cps ++ p.cps) y.cps).size ≤ 1000
    simp at hl
    omega
def rJoin (K : PySem.W.Frag) : V → List V → Hp → VK → Prop := fun x xs H Q => ∃ (z : Str) (l : Addr) (ys : List Str), x = .str z ∧ z.length = 0 ∧ xs = [.ref l] ∧ SqL K H l (ys.map V.str) ∧ ys.length ≤ 100 ∧ (∀ y ∈ ys, okS 10 y) ∧ ∀ y : Str, okS 1000 y → Q (.str y) H
end
end L2
namespace L2
open PySem PySem.Spec PyProof.Rows
def Itel (K : PySem.W.Frag) (a : Addr) : It := ⟨fun i H => ∃ xs x, SqL K H a xs ∧ xs[i]? = some x,
  fun i H v H' => ∃ T x, v = .ref T ∧ H T = none ∧ H' = upd H T (.tup [.int i, x]) ∧ ∀ xs, SqL K H a xs → xs[i]? = some x, fun i H => ∃ xs, SqL K H a xs ∧ xs.length ≤ i⟩
theorem turn_enumL {P : Program} {w : World} {K : PySem.W.Frag} {es : List Expr} {x1 : Nat} {pp : Pos} {a z j : Addr} (zj : z ≠ j) :
    Turn P w K (.Tuple es x1 pp) (Itel K a) [z, j] z (fun i h => (∃ u, IsEnum h z j i u) ∧ h.IsListIter j a i) where
  mem := by simp
  obj := fun i h q c hc => by
    obtain ⟨⟨u, q1⟩, ⟨o4, g4, _, d4⟩⟩ := q
    simp only [List.mem_cons, List.not_mem_nil, or_false] at hc
    rcases hc with rfl | rfl
    · exact ⟨_, q1, fun v y => nomatch y⟩
    · exact ⟨_, g4, fun v y => by rw [d4] at y; cases y⟩
  keep := fun i h h' q k => by
    obtain ⟨⟨u, q1⟩, q4⟩ := q
    exact ⟨⟨u, k _ (by simp) _ q1⟩, q4.at fun o g => k _ (by simp) o g⟩
  item := by
    intro X hP hw hK hc i pins s σ H E I hf st hg
    subst hP hw hK
    obtain ⟨xs, x, hq, hx⟩ := hg
    obtain ⟨⟨u, q1⟩, q4⟩ := st
    obtain ⟨as, ra, pa, za⟩ := I.list hq
    obtain ⟨ux, hux, rux⟩ := ra.get hx
    have ta : s.heap.IsList a as.toArray := pa.isList
    have az : a ≠ z := by rintro rfl; obtain ⟨o, g, c, _⟩ := ta; rw [q1] at g; cases g; simp at c
    have aj : a ≠ j := by rintro rfl; obtain ⟨o, g, c, _⟩ := ta; obtain ⟨o4, g4, c4, _⟩ := q4; rw [g4] at g; cases g; rw [c4] at c; simp at c
    have il : i < as.toArray.size := by simpa using (List.getElem?_eq_some_iff.mp hux).1
    refine wpAny_pyNext_enum_itemD (Draws.list (A := X.A.in1) (I.ok.hd hc) j a aj as.toArray) q1 ⟨q4, ta⟩ il zj (by simp only [List.mem_cons, List.not_mem_nil, or_false, not_or]; exact ⟨zj, az.symm⟩) fun y m tk hy zo st' np sz bt => ?_
    have yu : y = ux := by simp only [List.getElem?_toArray] at hy; rw [hux] at hy; exact (Option.some.inj hy).symm
    subst yu
    have I1 : Inv X pins σ H { s with heap := m, toks := tk + 1 } := I.turnedL (t' := tk + 1) (fl := [z, j]) (fun c o hc e => by
      simp only [List.mem_cons, List.not_mem_nil, or_false, not_or] at hc
      exact bt c o hc.1 hc.2 e) hf
    obtain ⟨f0, f1, f2, f3, f4, f5⟩ := I.fpOk (Nat.le_refl s.heap.objs.size) (I.hok.fresh (Nat.le_refl _))
    have n0 : X.s₀.heap.get? s.heap.objs.size = none := by
      cases q : X.s₀.heap.get? s.heap.objs.size with
      | none => rfl
      | some o => exact absurd (Nat.lt_of_lt_of_le (Heap.lt_size q) I.sz) (Nat.lt_irrefl _)
    have I2 : Inv X pins σ (upd H s.heap.objs.size (.tup [.int i, x])) { s with heap := m, toks := tk + 1 } := I1.track f0 ⟨small (by simp), [.int i tk, y], .cons (show RelV (V.int i) (Value.int i tk) from ⟨_, rfl⟩) (.cons rux .nil), ⟨_, np, rfl, _, rfl⟩⟩ f1 f4 f5 n0
    have lt : ∀ {c o}, s.heap.get? c = some o → c ≠ s.heap.objs.size := fun e => Nat.ne_of_lt (Heap.lt_size e)
    have zT : z ≠ s.heap.objs.size := lt q1
    obtain ⟨e0, e1, e2, e3, e4, e5⟩ := hf z (by simp)
    refine ⟨_, rfl, wpAny_letOwnedTupleGo_enum zo fun h2 z2 sb => ?_⟩
    have I3 : Inv X pins σ (upd H s.heap.objs.size (.tup [.int i, x])) { s with heap := h2, toks := tk + 1 } := Inv.turned (s := { s with heap := m, toks := tk + 1 }) (h' := h2) (t' := tk + 1) (it := z) I2 (fun c o hc e => sb.extBut _ _ hc e) (by rw [upd_ne zT]; exact e0) e1 e3 e4 e5
    refine ⟨.ref s.heap.objs.size, _, I3, rfl, ⟨_, x, rfl, f0, rfl, fun xs' k1 => ?_⟩, ⟨⟨_, by simpa using z2⟩, st'.1.at fun o g => sb.extBut _ _ zj.symm g⟩, fun c hc => ?_⟩
    · rw [I.list_inj k1 hq]; exact hx
    · have cT : c ≠ s.heap.objs.size := by
        obtain ⟨o4, g4, _⟩ := q4
        simp only [List.mem_cons, List.not_mem_nil, or_false] at hc
        rcases hc with rfl | rfl
        · exact zT
        · exact lt g4
      rw [upd_ne cT]; exact (hf c hc).1
  done := by
    intro X hP hw hK hc i pins s σ H E I hf st hg
    subst hP hw hK
    obtain ⟨xs, hq, hx⟩ := hg
    obtain ⟨⟨u, q1⟩, q4⟩ := st
    obtain ⟨as, ra, pa, za⟩ := I.list hq
    have la := ra.length
    refine wpAny_pyNext_enum_end (I.ok.hd hc) (i := i) (by simpa using q1) q4 pa.isList (by simp; omega) fun m bt => ⟨rfl, ?_⟩
    exact I.turnedL (t' := s.toks) (fl := [z, j]) (fun c o hc e => by
      simp only [List.mem_cons, List.not_mem_nil, or_false, not_or] at hc
      exact bt c o hc.2 e) hf
  self := fun _ _ _ _ _ st h => let ⟨⟨_, q1⟩, _⟩ := st; wpAny_pyIter_enum q1 h
section
variable {X : Cx} {es : List Expr} {x1 : Nat} {pp : Pos}
def iEnumL (K : PySem.W.Frag) (te : TE) : TI := fun σ H R => te σ H fun v H1 => ∃ a xs, v = .ref a ∧ SqL K H1 a xs ∧ R (Itel K a) H1
theorem pi_enumL {e : Expr} {te : TE} {p pos : Pos} (hg : Gl X "enumerate") (hm : X.mg "enumerate" = none) (he : PE X e te) (hs : starEach [e] X.env = [(false, eval e X.env)] := by rfl) :
    PI X (.Tuple es x1 pp) (.Call (.Name "enumerate" p) [e] [] pos) (iEnumL X.K te) := by
  intro pins s σ H R I h
  have hA := (pa_cons he (pa_nil (X := X)) hs) pos pins s σ H (fun vs H1 => match vs with | [x] => ∃ a xs, x = .ref a ∧ SqL X.K H1 a xs ∧ R (Itel X.K a) H1 | _ => False) I h
  refine Call_ (ld_blt I hg hm boot_enumerate (PyProof.Rows.callWith_type1 (thn hA fun us s1 ⟨vs, H1, I1, r1, q1⟩ => ?_) hs rfl))
  match vs, q1 with
  | [x], ⟨a, xs, e, hq, q⟩ =>
    subst e
    obtain ⟨u, rfl, ru⟩ := vals1 r1
    cases (show u = Value.ref a from ru)
    obtain ⟨as, va, pa, za⟩ := I1.list hq
    refine call_enumerate_list pa.isList fun m w1 w2 sz kk => ?_
    have I2 : Inv X pins σ H1 { s1 with heap := m } := I1.kept (t' := s1.toks) kk
    refine wpAny_pyIter_enum w1 ⟨s1.heap.objs.size + 1, [s1.heap.objs.size + 1, s1.heap.objs.size], _, _, H1, rfl, I2, turn_enumL (Nat.succ_ne_self _), ⟨⟨_, w1⟩, w2⟩, fun c hc => ?_, q⟩
    have ge : s1.heap.objs.size ≤ c := by
      simp only [List.mem_cons, List.not_mem_nil, or_false] at hc
      rcases hc with rfl | rfl <;> omega
    exact I1.fpOk ge (I1.hok.fresh ge)
end
def LoopEL (K : PySem.W.Frag) (g : TG) (tb : TS) (D : Ends) (σ : St) (v : V) (H1 : Hp) : Prop := ∃ a xs, v = .ref a ∧ SqL K H1 a xs ∧ ∃ W : Nat → Nat → St → Hp → Prop, (∃ m, W 0 m σ H1) ∧ ∀ i m σ H, W i m σ H →
  ((Itel K a).stop i H ∧ D.nx σ H) ∨ ((Itel K a).go i H ∧ ∃ N : St → Hp → Prop, (∀ σ' H', N σ' H' → ∃ m', m' < m ∧ W (i + 1) m' σ' H') ∧ ∀ x H', (Itel K a).yld i H x H' → g x σ H' fun σ2 H2 => tb { D with nx := N, ct := N, bk := D.nx } σ2 H2)
theorem for_eqEL {K : PySem.W.Frag} {te : TE} {g : TG} {tb : TS} {D : Ends} {σ : St} {H : Hp} : tFor (iEnumL K te) g tb D σ H = te σ H fun v H1 => LoopEL K g tb D σ v H1 := rfl
theorem LoopEL.mk {K : PySem.W.Frag} {a : Addr} {xs : List V} {g : TG} {tb : TS} {D : Ends} {σ : St} {H : Hp} (h1 : SqL K H a xs) (Pv : Nat → St → Hp → Prop) (h0 : Pv 0 σ H) (hl : ∀ i σ H, i ≤ xs.length → Pv i σ H → SqL K H a xs)
    (hs : ∀ i x σ H T, xs[i]? = some x → Pv i σ H → H T = none → g (.ref T) σ (upd H T (.tup [.int i, x])) fun σ2 H2 => tb { D with nx := Pv (i + 1), ct := Pv (i + 1), bk := D.nx } σ2 H2) (hd : ∀ σ H, Pv xs.length σ H → D.nx σ H) :
    LoopEL K g tb D σ (.ref a) H := by
  refine ⟨a, xs, rfl, h1, fun i m σ H => m = xs.length - i ∧ i ≤ xs.length ∧ Pv i σ H, ⟨_, rfl, Nat.zero_le _, h0⟩, ?_⟩
  rintro i m σ H ⟨rfl, hi, p⟩
  have k1 := hl i σ H hi p
  by_cases hlt : i < xs.length
  · refine .inr ⟨⟨xs, _, k1, List.getElem?_eq_getElem hlt⟩, Pv (i + 1), fun σ' H' p' => ⟨xs.length - (i + 1), by omega, rfl, hlt, p'⟩, fun v H' yy => ?_⟩
    obtain ⟨T, x, rfl, hT, rfl, ex⟩ := yy
    exact hs i x σ H T (ex xs k1) p hT
  · have e : i = xs.length := by omega
    exact .inl ⟨⟨xs, k1, by omega⟩, hd σ H (e ▸ p)⟩
end L2
namespace L2
open PySem PySem.Spec PyProof.Rows
theorem pa_str {X : Cx} {x j pos} {es : List Expr} {t : TA} (hr : PA X es t) : PA X (.Constant (.str x) j pos :: es) (tCons (tC (.str x)) t) := pa_cons pe_str hr rfl
def strsC (l : List (Str × Pos)) : List Expr := l.map fun p => .Constant (.str p.1) 0 p.2
def tStrs (l : List Str) : TA := fun _ H Q => Q (l.map V.str) H
theorem pa_strs {X : Cx} : ∀ l : List (Str × Pos), PA X (strsC l) (tStrs (l.map (·.1)))
  | [] => pa_nil
  | _ :: l => pa_str (pa_strs l)
instance (k : Nat) (x : Str) : Decidable (okS k x) := by unfold okS; infer_instance
end L2
namespace L2
open PySem PySem.Spec PyProof.Rows
def Itx (x : Str) : It := ⟨fun i _ => i < x.cps.size, fun i H v H' => H' = H ∧ ∃ c, x.cps[i]? = some c ∧ v = .str ⟨#[c]⟩, fun i _ => x.cps.size ≤ i⟩
def strTn (it : Addr) (x : Str) (t : Tok) (i : Nat) (h : Heap) : Prop := h.IsStrIter it "str_ascii_iterator" x t i ∨ h.IsStrIter it "str_iterator" x t i
theorem turn_str {P : Program} {w : World} {K : PySem.W.Frag} {tg : Expr} (it : Addr) (x : Str) (t : Tok) : Turn P w K tg (Itx x) [it] it (strTn it x t) where
  mem := by simp
  obj := fun i h st b hb => by
    have e : b = it := by simpa using hb
    subst e
    rcases st with ⟨o, e, c, d⟩ | ⟨o, e, c, d⟩ <;> exact ⟨o, e, fun v z => by rw [d] at z; cases z⟩
  keep := fun i h h' st k => by
    rcases st with ⟨o, e, r⟩ | ⟨o, e, r⟩
    · exact .inl ⟨o, k it (by simp) o e, r⟩
    · exact .inr ⟨o, k it (by simp) o e, r⟩
  item := by
    intro X hP hw hK hc i pins s σ H E I hf st hg
    subst hP hw hK
    obtain ⟨f0, f1, f2, f3, f4, f5⟩ := hf it (by simp)
    have hi : x.cps[i]? = some (x.cps[i]'hg) := Array.getElem?_eq_getElem hg
    rcases st with st | st
    · refine wpAny_pyNext_ascii_item st hi fun h' st' sb => ?_
      have I1 : Inv X pins σ H { s with heap := h', toks := s.toks + 1 } := I.turned (fun b o hb e => (sb.2 b hb).trans e) f0 f1 f3 f4 f5
      obtain ⟨o, e, c, d⟩ := id st'
      exact ⟨_, rfl, go_of (s := { s with heap := h', toks := s.toks + 1 }) e c d (by decide) ⟨.str ⟨#[x.cps[i]'hg]⟩, H, I1, ⟨_, rfl⟩, ⟨rfl, _, hi, rfl⟩, .inl st', fun b hb => (hf b hb).1⟩⟩
    · refine wpAny_pyNext_wide_item st hi fun h' st' sb => ?_
      have I1 : Inv X pins σ H { s with heap := h', toks := s.toks + 1 } := I.turned (fun b o hb e => (sb.2 b hb).trans e) f0 f1 f3 f4 f5
      obtain ⟨o, e, c, d⟩ := id st'
      exact ⟨_, rfl, go_of (s := { s with heap := h', toks := s.toks + 1 }) e c d (by decide) ⟨.str ⟨#[x.cps[i]'hg]⟩, H, I1, ⟨_, rfl⟩, ⟨rfl, _, hi, rfl⟩, .inr st', fun b hb => (hf b hb).1⟩⟩
  done := by
    intro X hP hw hK hc i pins s σ H E I hf st hg
    subst hP hw hK
    obtain ⟨f0, f1, f2, f3, f4, f5⟩ := hf it (by simp)
    have hi : x.cps[i]? = none := Array.getElem?_eq_none hg
    rcases st with st | st
    · exact wpAny_pyNext_ascii_end (I.ok.hd hc) st hi fun h' eb => ⟨rfl, I.turned (t' := s.toks) (fun b o hb e => eb b o hb e) f0 f1 f3 f4 f5⟩
    · exact wpAny_pyNext_wide_end (I.ok.hd hc) st hi fun h' eb => ⟨rfl, I.turned (t' := s.toks) (fun b o hb e => eb b o hb e) f0 f1 f3 f4 f5⟩
  self := fun _ _ _ _ _ st h => st.elim (fun st => wpAny_pyIter_striter_ascii st h) (fun st => wpAny_pyIter_striter_wide st h)
section
variable {X : Cx} {tg : Expr}
def iStr (tl : TE) : TI := fun σ H R => tl σ H fun x H1 => ∃ z, x = .str z ∧ R (Itx z) H1
theorem pi_str {l : Expr} {tl : TE} (hl : PE X l tl) : PI X tg l (iStr tl) := by
  intro pins s σ H R I h
  refine thn (hl pins s σ H _ I h) fun v s1 ⟨x, H1, I1, r1, q1⟩ => ?_
  obtain ⟨z, e, q⟩ := q1
  subst e
  obtain ⟨t, rfl⟩ := r1
  have fin : ∀ b ∈ [s1.heap.objs.size], FpOk X pins H1 b := fun b hb => by
    have e : b = s1.heap.objs.size := by simpa using hb
    subst e
    exact I1.fpOk (Nat.le_refl _) (I1.hok.fresh (Nat.le_refl _))
  cases ha : z.cps.all (· < 128)
  · exact wpAny_pyIter_wide ha ⟨s1.heap.objs.size, [s1.heap.objs.size], _, _, H1, rfl, I1.kept (t' := s1.toks) fun b o e => Heap.get?_push_of_some _ e, turn_str _ z t, .inr ⟨_, Heap.get?_push_size _ rfl, rfl, rfl⟩, fin, q⟩
  · exact wpAny_pyIter_ascii ha ⟨s1.heap.objs.size, [s1.heap.objs.size], _, _, H1, rfl, I1.kept (t' := s1.toks) fun b o e => Heap.get?_push_of_some _ e, turn_str _ z t, .inl ⟨_, Heap.get?_push_size _ rfl, rfl, rfl⟩, fin, q⟩
end
def LoopX (g : TG) (tb : TS) (D : Ends) (σ : St) (v : V) (H1 : Hp) : Prop := ∃ z, v = .str z ∧ ∃ W : Nat → Nat → St → Hp → Prop, (∃ m, W 0 m σ H1) ∧ ∀ i m σ H, W i m σ H →
  ((Itx z).stop i H ∧ D.nx σ H) ∨ ((Itx z).go i H ∧ ∃ N : St → Hp → Prop, (∀ σ' H', N σ' H' → ∃ m', m' < m ∧ W (i + 1) m' σ' H') ∧ ∀ x H', (Itx z).yld i H x H' → g x σ H' fun σ2 H2 => tb { D with nx := N, ct := N, bk := D.nx } σ2 H2)
theorem for_eqX {te : TE} {g : TG} {tb : TS} {D : Ends} {σ : St} {H : Hp} : tFor (iStr te) g tb D σ H = te σ H fun v H1 => LoopX g tb D σ v H1 := rfl
theorem LoopX.mk {z : Str} {g : TG} {tb : TS} {D : Ends} {σ : St} {H : Hp} (Pv : Nat → St → Hp → Prop) (h0 : Pv 0 σ H)
    (hs : ∀ i c σ H, z.cps[i]? = some c → Pv i σ H → g (.str ⟨#[c]⟩) σ H fun σ2 H2 => tb { D with nx := Pv (i + 1), ct := Pv (i + 1), bk := D.nx } σ2 H2) (hd : ∀ σ H, Pv z.cps.size σ H → D.nx σ H) :
    LoopX g tb D σ (.str z) H := by
  refine ⟨z, rfl, fun i m σ H => m = z.cps.size - i ∧ i ≤ z.cps.size ∧ Pv i σ H, ⟨_, rfl, Nat.zero_le _, h0⟩, ?_⟩
  rintro i m σ H ⟨rfl, hi, p⟩
  by_cases hlt : i < z.cps.size
  · refine .inr ⟨hlt, Pv (i + 1), fun σ' H' p' => ⟨z.cps.size - (i + 1), by omega, rfl, hlt, p'⟩, fun v H' yy => ?_⟩
    obtain ⟨rfl, c, ec, rfl⟩ := yy
    exact hs i c σ H' ec p
  · have e : i = z.cps.size := by omega
    exact .inl ⟨by show z.cps.size ≤ i; omega, hd σ H (e ▸ p)⟩
def CompX (k : Nat) (js : List Nat) (g : TG) (te : TE) (σ : St) (v : V) (H1 : Hp) (Q : VK) : Prop := ∃ z, v = .str z ∧ ∃ W : Nat → Nat → List V → St → Hp → Prop, (∃ m, W 0 m [] (compSt k js σ) H1) ∧ ∀ i m ys σ' H', W i m ys σ' H' →
    ((Itx z).stop i H' ∧ ∀ p, H' p = none → Q (.ref p) (upd H' p (.lst ys))) ∨
    ((Itx z).go i H' ∧ ys.length < sizeLine ∧ ∃ N : List V → St → Hp → Prop, (∀ zs σ2 H2, N zs σ2 H2 → ∃ m', m' < m ∧ W (i + 1) m' zs σ2 H2) ∧ ∀ x H2, (Itx z).yld i H' x H2 → g x σ' H2 fun σ3 H3 => te σ3 H3 fun v H4 => N (ys ++ [v]) σ3 H4)
theorem comp_eqX {k : Nat} {js : List Nat} {ti : TE} {g : TG} {te : TE} {σ : St} {H : Hp} {Q : VK} : tComp (iStr ti) k js g te σ H Q = ti σ H fun x H1 => CompX k js g te σ x H1 Q := rfl
theorem CompX.mk {z : Str} {k : Nat} {js : List Nat} {g : TG} {te : TE} {Q : VK} {σ : St} {H : Hp} (Pv : Nat → List V → St → Hp → Prop) (h0 : Pv 0 [] (compSt k js σ) H)
    (hs : ∀ i c ys σ H, z.cps[i]? = some c → Pv i ys σ H → ys.length < sizeLine ∧ g (.str ⟨#[c]⟩) σ H fun σ3 H3 => te σ3 H3 fun v H4 => Pv (i + 1) (ys ++ [v]) σ3 H4) (hd : ∀ ys σ H, Pv z.cps.size ys σ H → ∀ p, H p = none → Q (.ref p) (upd H p (.lst ys))) :
    CompX k js g te σ (.str z) H Q := by
  refine ⟨z, rfl, fun i m ys σ H => m = z.cps.size - i ∧ i ≤ z.cps.size ∧ Pv i ys σ H, ⟨_, rfl, Nat.zero_le _, h0⟩, ?_⟩
  rintro i m ys σ H ⟨rfl, hi, p⟩
  by_cases hlt : i < z.cps.size
  · refine .inr ⟨hlt, (hs i (z.cps[i]'hlt) ys σ H (Array.getElem?_eq_getElem hlt) p).1, Pv (i + 1), fun zs σ' H' p' => ⟨z.cps.size - (i + 1), by omega, rfl, hlt, p'⟩, fun v H' yy => ?_⟩
    obtain ⟨rfl, c, ec, rfl⟩ := yy
    exact (hs i c ys σ H' ec p).2
  · have e : i = z.cps.size := by omega
    exact .inl ⟨by show z.cps.size ≤ i; omega, hd ys σ H (e ▸ p)⟩
section
variable {X : Cx}
def findI (x y : Str) : Int := match Builtin.Str.occurrences x y 0 x.length 1 with | i :: _ => (i : Int) | [] => -1
def rFind : V → List V → Hp → VK → Prop := fun x xs H Q => ∃ z y, x = .str z ∧ xs = [.str y] ∧ Q (.int (findI z y)) H
end
end L2
namespace L2
open PySem PySem.Spec PyProof.Rows
section
variable {X : Cx}
def rCatL (K : PySem.W.Frag) : R2 := fun x y H Q => ∃ l b xs zs, x = .ref l ∧ y = .ref b ∧ SqL K H l xs ∧ SqL K H b zs ∧ xs.length + zs.length ≤ sizeLine ∧ ∀ p, H p = none → Q (.ref p) (upd H p (.lst (xs ++ zs)))
end
end L2
namespace L2
open PySem PySem.Spec PyProof.Rows
section
variable {pg : Program} {wd : World} {B : Around} {X0 : Value → Shared → Prop} {s0 : Shared}
end
def ItzL (K : PySem.W.Frag) (a b : Addr) : It := ⟨fun i H => ∃ xs ys x y, SqL K H a xs ∧ SqL K H b ys ∧ xs[i]? = some x ∧ ys[i]? = some y,
  fun i H v H' => ∃ T x y, v = .ref T ∧ H T = none ∧ H' = upd H T (.tup [x, y]) ∧ ∀ xs ys, SqL K H a xs → SqL K H b ys → xs[i]? = some x ∧ ys[i]? = some y, fun i H => ∃ xs ys, SqL K H a xs ∧ SqL K H b ys ∧ (xs.length ≤ i ∨ ys.length ≤ i)⟩
section
variable {X : Cx} {es : List Expr} {x1 : Nat} {pp : Pos}
def iZipL (K : PySem.W.Frag) (ta : TA) : TI := fun σ H R => ta σ H fun vs H1 => ∃ a b xs ys, vs = [.ref a, .ref b] ∧ SqL K H1 a xs ∧ SqL K H1 b ys ∧ R (ItzL K a b) H1
end
def LoopZL (K : PySem.W.Frag) (g : TG) (tb : TS) (D : Ends) (σ : St) (vs : List V) (H1 : Hp) : Prop := ∃ a b xs ys, vs = [.ref a, .ref b] ∧ SqL K H1 a xs ∧ SqL K H1 b ys ∧ ∃ W : Nat → Nat → St → Hp → Prop, (∃ m, W 0 m σ H1) ∧ ∀ i m σ H, W i m σ H →
  ((ItzL K a b).stop i H ∧ D.nx σ H) ∨ ((ItzL K a b).go i H ∧ ∃ N : St → Hp → Prop, (∀ σ' H', N σ' H' → ∃ m', m' < m ∧ W (i + 1) m' σ' H') ∧ ∀ x H', (ItzL K a b).yld i H x H' → g x σ H' fun σ2 H2 => tb { D with nx := N, ct := N, bk := D.nx } σ2 H2)
theorem for_eqZL {K : PySem.W.Frag} {ta : TA} {g : TG} {tb : TS} {D : Ends} {σ : St} {H : Hp} : tFor (iZipL K ta) g tb D σ H = ta σ H fun vs H1 => LoopZL K g tb D σ vs H1 := rfl
theorem LoopZL.mk {K : PySem.W.Frag} {a b : Addr} {xs ys : List V} {g : TG} {tb : TS} {D : Ends} {σ : St} {H : Hp} (n : Nat) (hn : n = min xs.length ys.length) (h1 : SqL K H a xs) (h2 : SqL K H b ys) (Pv : Nat → St → Hp → Prop) (h0 : Pv 0 σ H) (hl : ∀ i σ H, i ≤ n → Pv i σ H → SqL K H a xs ∧ SqL K H b ys)
    (hs : ∀ i x y σ H T, i < n → xs[i]? = some x → ys[i]? = some y → Pv i σ H → H T = none → g (.ref T) σ (upd H T (.tup [x, y])) fun σ2 H2 => tb { D with nx := Pv (i + 1), ct := Pv (i + 1), bk := D.nx } σ2 H2) (hd : ∀ σ H, Pv n σ H → D.nx σ H) :
    LoopZL K g tb D σ [.ref a, .ref b] H := by
  subst hn
  refine ⟨a, b, xs, ys, rfl, h1, h2, fun i m σ H => m = min xs.length ys.length - i ∧ i ≤ min xs.length ys.length ∧ Pv i σ H, ⟨_, rfl, Nat.zero_le _, h0⟩, ?_⟩
  rintro i m σ H ⟨rfl, hi, p⟩
  obtain ⟨k1, k2⟩ := hl i σ H hi p
  by_cases hlt : i < min xs.length ys.length
  · have l1 : i < xs.length := by omega
    have l2 : i < ys.length := by omega
    refine .inr ⟨⟨xs, ys, _, _, k1, k2, List.getElem?_eq_getElem l1, List.getElem?_eq_getElem l2⟩, Pv (i + 1), fun σ' H' p' => ⟨min xs.length ys.length - (i + 1), by omega, rfl, hlt, p'⟩, fun v H' yy => ?_⟩
    obtain ⟨T, x, y, rfl, hT, rfl, ex⟩ := yy
    obtain ⟨ex1, ex2⟩ := ex xs ys k1 k2
    exact hs i x y σ H T hlt ex1 ex2 p hT
  · have e : i = min xs.length ys.length := by omega
    exact .inl ⟨⟨xs, ys, k1, k2, by omega⟩, hd σ H (e ▸ p)⟩
def CompZL (K : PySem.W.Frag) (k : Nat) (js : List Nat) (g : TG) (te : TE) (σ : St) (vs : List V) (H1 : Hp) (Q : VK) : Prop := ∃ a b xs ys, vs = [.ref a, .ref b] ∧ SqL K H1 a xs ∧ SqL K H1 b ys ∧ ∃ W : Nat → Nat → List V → St → Hp → Prop, (∃ m, W 0 m [] (compSt k js σ) H1) ∧ ∀ i m zs σ' H', W i m zs σ' H' →
    ((ItzL K a b).stop i H' ∧ ∀ p, H' p = none → Q (.ref p) (upd H' p (.lst zs))) ∨
    ((ItzL K a b).go i H' ∧ zs.length < sizeLine ∧ ∃ N : List V → St → Hp → Prop, (∀ zs σ2 H2, N zs σ2 H2 → ∃ m', m' < m ∧ W (i + 1) m' zs σ2 H2) ∧ ∀ x H2, (ItzL K a b).yld i H' x H2 → g x σ' H2 fun σ3 H3 => te σ3 H3 fun v H4 => N (zs ++ [v]) σ3 H4)
theorem comp_eqZL {K : PySem.W.Frag} {k : Nat} {js : List Nat} {ta : TA} {g : TG} {te : TE} {σ : St} {H : Hp} {Q : VK} : tComp (iZipL K ta) k js g te σ H Q = ta σ H fun vs H1 => CompZL K k js g te σ vs H1 Q := rfl
theorem CompZL.mk {K : PySem.W.Frag} {a b : Addr} {xs ys : List V} {k : Nat} {js : List Nat} {g : TG} {te : TE} {Q : VK} {σ : St} {H : Hp} (n : Nat) (hn : n = min xs.length ys.length) (h1 : SqL K H a xs) (h2 : SqL K H b ys) (Pv : Nat → List V → St → Hp → Prop) (h0 : Pv 0 [] (compSt k js σ) H) (hl : ∀ i zs σ H, i ≤ n → Pv i zs σ H → SqL K H a xs ∧ SqL K H b ys)
    (hs : ∀ i x y zs σ H T, i < n → xs[i]? = some x → ys[i]? = some y → Pv i zs σ H → H T = none → zs.length < sizeLine ∧ g (.ref T) σ (upd H T (.tup [x, y])) fun σ3 H3 => te σ3 H3 fun v H4 => Pv (i + 1) (zs ++ [v]) σ3 H4) (hz : ∀ zs σ H, Pv n zs σ H → ∀ p, H p = none → Q (.ref p) (upd H p (.lst zs))) (hlen : ∀ i zs σ H, Pv i zs σ H → zs.length < sizeLine) :
    CompZL K k js g te σ [.ref a, .ref b] H Q := by
  subst hn
  refine ⟨a, b, xs, ys, rfl, h1, h2, fun i m zs σ H => m = min xs.length ys.length - i ∧ i ≤ min xs.length ys.length ∧ Pv i zs σ H, ⟨_, rfl, Nat.zero_le _, h0⟩, ?_⟩
  rintro i m zs σ H ⟨rfl, hi, p⟩
  obtain ⟨k1, k2⟩ := hl i zs σ H hi p
  by_cases hlt : i < min xs.length ys.length
  · have l1 : i < xs.length := by omega
    have l2 : i < ys.length := by omega
    refine .inr ⟨⟨xs, ys, _, _, k1, k2, List.getElem?_eq_getElem l1, List.getElem?_eq_getElem l2⟩, hlen _ _ _ _ p, Pv (i + 1), fun zs' σ' H' p' => ⟨min xs.length ys.length - (i + 1), by omega, rfl, hlt, p'⟩, fun v H' yy => ?_⟩
    obtain ⟨T, x, y, rfl, hT, rfl, ex⟩ := yy
    obtain ⟨ex1, ex2⟩ := ex xs ys k1 k2
    exact (hs i x y zs σ H T hlt ex1 ex2 p hT).2
  · have e : i = min xs.length ys.length := by omega
    exact .inl ⟨⟨xs, ys, k1, k2, by omega⟩, hz zs σ H (e ▸ p)⟩
end L2
namespace L2
open PySem PySem.Spec PyProof.Rows
section
variable {prog : Program} {w : World} {A : Around} {E : Value → Shared → Prop} {s : Shared}
end
theorem vals_of_get : ∀ {xs : List V} {us : List Value}, xs.length = us.length → (∀ (i : Nat) u, us[i]? = some u → ∃ x, xs[i]? = some x ∧ RelV x u) → Vals xs us
  | [], [], _, _ => .nil
  | [], _ :: _, h, _ => by simp at h
  | _ :: _, [], h, _ => by simp at h
  | x :: xs, u :: us, h, f => by
    obtain ⟨y, e, r⟩ := f 0 u rfl
    cases (Option.some.inj e)
    exact .cons r (vals_of_get (by simpa using h) fun i v e => f (i + 1) v e)
section
variable {X : Cx}
def rCount : V → List V → Hp → VK → Prop := fun x ys H Q => ∃ a o xs y, x = .ref a ∧ ys = [y] ∧ H a = some (.frz o (.tup xs)) ∧ xs.all flatV = true ∧ flatV y = true ∧ Q (.int (xs.countP fun z => eqV z y)) H
def tBMf (r : V → List V → Hp → VK → Prop) (to : TE) (t : TA) : TE := fun σ H Q => to σ H fun x H1 => (∃ a o xs, x = .ref a ∧ H1 a = some (.frz o (.tup xs)) ∧ o.dict = none) ∧ t σ H1 fun ys H2 => r x ys H2 Q
theorem mr_popAt : MtR X "list.pop" rPopAt := mt_popAt
end
end L2
namespace L2
open PySem PySem.Spec PyProof.Rows
theorem ps_setC {X : Cx} {i : Nat} {x : Str} {elt tg iter : Expr} {scope : Scope} {cl : List (Str × Addr)} {pos pos' lpos : Pos} {own fv : List Str} {js : List Nat} {wi : TI} {g : TG} {te : TE}
    (hN : X.N.Nodup) (hx1 : X.N[i]? = some x) (hx : Loc X.env.scope x) (hf : X.fn x = true ∨ X.env.scope.names.lookup x = some .local)
    (hc : X.calm = true) (hi : PI X tg iter wi) (hclos : closureFor scope X.env = pure cl) (hcell : ∀ y ∈ scope.names, y.2 ≠ .cell) (hkind : scope.kind = .function)
    (hnames : ∀ y ∈ scope.names, y.2 = .local → scope.names.lookup y.1 = some .local)
    (hcl : ∀ x c, cl.lookup x = some c → X.env.cells.lookup x = some c)
    (hhas : ∀ x, ((relabel scope X.env).names.lookup x = some .cell ∨ (relabel scope X.env).names.lookup x = some .free) → ∃ c, cl.lookup x = some c)
    (hlen : js.length = fv.length) (hcap : ∀ (i : Nat) x j, fv[i]? = some x → js[i]? = some j → Cap X scope cl x j)
    (hg : ∀ (C : Addr) (ex : List Addr) (s : Shared) (H : Hp), PG (cxComp X (own ++ fv) scope cl C ex s H) tg g)
    (he : ∀ (C : Addr) (ex : List Addr) (s : Shared) (H : Hp), PE (cxComp X (own ++ fv) scope cl C ex s H) elt te)
    (hsw : swapsWith (.ListComp elt [⟨tg, iter, [], 0⟩] scope lpos) (some (.Name x pos')) pos.line X.env = pure true := by rfl)
    (hs : ∀ x, foldedSetIterable iter X.env x = pure x := by intro _; rfl) :
    PS X (.Assign [.Name x pos'] (.ListComp elt [⟨tg, iter, [], 0⟩] scope lpos) pos) (tAsg (tComp wi own.length js g te) (gName i)) := by
  intro pins s σ H D I h
  rw [exec_Assign_Name_used _ _ _ _ hsw]
  refine wpAny_bind (wpAny_standAt ?_)
  rw [arm_evalThenUse_ListComp]
  have core := comp_core (use := some (assign (.Name x pos') X.env)) (QQ := fun _ s' => SP X pins D .next s') (fpos := firstIterPos [⟨tg, iter, [], 0⟩] lpos) (pos := lpos) hc hi hclos hcell hkind hnames hcl hhas hlen hcap hg he hs I h (fun a C s5 H5 fl I5 zC zL zS zc zp ⟨m, hn⟩ q => ?_)
  · refine wpAny_bind (wpAny_bind (thn core fun _ s' hq => ?_))
    exact wpAny_pure (wpAny_pure hq)
  · show wpAny (model X.prog X.w) X.A (assign (.Name x pos') X.env (.ref a)) _ X.xe s5
    show wpAny (model X.prog X.w) X.A (do standAt pos'; bindName X.env x (.ref a)) _ X.xe s5
    refine wpAny_bind (wpAny_standAt ?_)
    refine bindName_ ?_
    refine store_ok2 I5 hN hx1 hx (show RelV (.ref a) (.ref a) from rfl) (fun s6 I6 ⟨b, sb, hb⟩ => ?_) hf
    have cb : C ≠ b := by
      rcases hb with rfl | hb
      · exact zL
      · exact fun z => zc x b hb z.symm
    obtain ⟨o, es, ep, e, r⟩ := hn
    refine ⟨m, ⟨o, es, ep, (sb.2 C cb).trans e, r⟩, fun h' sc => ?_⟩
    exact ⟨_, H5, I6.turned (t' := s6.toks) (it := C) (fun d o nd e => sc.extBut d o nd e) zC zL (.inr zS) zc zp, q⟩
theorem ps_setC0 {X : Cx} {i : Nat} {x : Str} {elt tg iter : Expr} {scope : Scope} {pos pos' lpos : Pos} {own : List Str} {wi : TI} {g : TG} {te : TE}
    (hN : X.N.Nodup) (hx1 : X.N[i]? = some x) (hx : Loc X.env.scope x) (hf : X.fn x = true ∨ X.env.scope.names.lookup x = some .local)
    (hc : X.calm = true) (hi : PI X tg iter wi) (hcell : ∀ y ∈ scope.names, y.2 ≠ .cell) (hfree : ∀ y ∈ scope.names, y.2 ≠ .free) (hkind : scope.kind = .function)
    (hnames : ∀ y ∈ scope.names, y.2 = .local → scope.names.lookup y.1 = some .local)
    (hg : ∀ (C : Addr) (ex : List Addr) (s : Shared) (H : Hp), PG (cxComp X own scope [] C ex s H) tg g)
    (he : ∀ (C : Addr) (ex : List Addr) (s : Shared) (H : Hp), PE (cxComp X own scope [] C ex s H) elt te)
    (hsw : swapsWith (.ListComp elt [⟨tg, iter, [], 0⟩] scope lpos) (some (.Name x pos')) pos.line X.env = pure true := by rfl)
    (hs : ∀ x, foldedSetIterable iter X.env x = pure x := by intro _; rfl) :
    PS X (.Assign [.Name x pos'] (.ListComp elt [⟨tg, iter, [], 0⟩] scope lpos) pos) (tAsg (tComp wi own.length [] g te) (gName i)) := by
  refine ps_setC (own := own) (fv := []) (js := []) (cl := []) hN hx1 hx hf hc hi (closureFor_none hfree) hcell hkind hnames (fun x c h => by cases h) (fun x h => ?_) rfl (fun i x j h => by simp at h) (by simpa using hg) (by simpa using he) hsw hs
  rw [relabel_none hfree] at h
  rcases h with h | h
  · exact absurd rfl (hcell _ (PySem.mem_of_lookup h))
  · exact absurd rfl (hfree _ (PySem.mem_of_lookup h))
end L2
namespace L2
open PySem PySem.Spec PyProof.Rows
section
variable {X : Cx}
theorem call_strI : CallR X (.type "str") (fun xs H Q => ∃ i : Int, xs = [.int i] ∧ i.natAbs.log2 < 1920 ∧ Q (.str (Str.ofString (toString i))) H) := by
  intro pins s σ H xs us Q I r h
  obtain ⟨i, rfl, hl, q⟩ := h
  obtain ⟨u, rfl, t, rfl⟩ := vals1 r
  exact PySem.P.str_of_int hl ⟨.str _, H, I.tok _, ⟨_, rfl⟩, q⟩
theorem call_intS : CallR X (.type "int") (fun xs H Q => ∃ (x : Str) (n : Int), xs = [.str x] ∧ PySem.intText? x = some n ∧ x.length ≤ 640 ∧ Q (.int n) H) := by
  intro pins s σ H xs us Q I r h
  obtain ⟨x, n, rfl, hn, hl, q⟩ := h
  obtain ⟨u, rfl, t, rfl⟩ := vals1 r
  exact PySem.W.KIN.call_text hn hl ⟨.int n, H, I.tok _, ⟨_, rfl⟩, q⟩
def startsB (x y : Str) : Bool := decide (0 + y.length ≤ x.length) && Builtin.Str.subAt x y 0
def rStarts : V → List V → Hp → VK → Prop := fun x xs H Q => ∃ z y, x = .str z ∧ xs = [.str y] ∧ Q (.bl (startsB z y)) H
theorem mt_starts : MtR X "str.startswith" rStarts := by
  intro pins s σ H x xs v us Q I rx rv h
  obtain ⟨z, y, rfl, rfl, q⟩ := h
  obtain ⟨t, rfl⟩ := rx
  obtain ⟨u, rfl, ru⟩ := vals1 rv
  obtain ⟨ty, rfl⟩ := (show ∃ ty, u = Value.str y ty from ru)
  exact call_gives F.slot_str_startswith (typeIs_str s z t) F.entry_str_startswith (F.args_str_startswith_2 _ _) (gives_str_startswith z y t ty) ⟨.bl (startsB z y), H, I, rfl, q⟩
def rSlStrX : V → Option Int → Option Int → Hp → VK → Prop := fun x lo hi H Q => ∃ z, x = .str z ∧ z.length ≤ 20000 ∧ Q (.str (Txt.slice z lo hi)) H
theorem sl_strX : SlR X rSlStrX := by
  intro pins s σ H x v vl vu lo hi sl Q I rx hs pl pu h
  obtain ⟨z, rfl, hz, q⟩ := h
  obtain ⟨t, rfl⟩ := rx
  have s20 : 20000 ≤ sizeLine := by rw [sizeLine_eq]; decide
  have part : ∀ {u : Value} {o : Option Int}, IsPart u o → ∃ l, u = partValue l ∧ o = l.map fun p : Int × Tok => p.1 := fun p => by
    cases p with
    | none => exact ⟨none, rfl, rfl⟩
    | int i t => exact ⟨some (i, t), rfl, rfl⟩
  obtain ⟨l, rfl, rfl⟩ := part pl
  obtain ⟨u, rfl, rfl⟩ := part pu
  obtain ⟨o, ho, hc, hd⟩ := hs
  refine ⟨"str", _, F.slot_str_getitem.lookup, typeIs_str _ _ _, wpAny_getItem_str_slice (l := l) (u := u) (st := none) ⟨o, ho, hc, hd⟩ rfl ?_⟩
  have le := Txt.slice_le z (l.map fun p : Int × Tok => p.1) (u.map fun p : Int × Tok => p.1)
  exact post_val_or_str ⟨Nat.le_trans le (by omega), fun t' k => ⟨.str _, H, I.tok k, ⟨t', rfl⟩, q⟩⟩
theorem vals_bools : ∀ {bs : List Bool} {us : List Value}, Vals (bs.map V.bl) us → us = bs.map Value.bool
  | [], _, .nil => rfl
  | b :: bs, _, .cons r t => by
    cases (show _ = Value.bool b from r)
    rw [vals_bools t]; rfl
theorem call_allB (hc : X.calm = true) : CallR X (.builtin "all") (fun xs H Q => ∃ (a : Addr) (bs : List Bool), xs = [.ref a] ∧ SqL X.K H a (bs.map V.bl) ∧ Q (.bl (bs.all id)) H) := by
  intro pins s σ H xs us Q I r h
  obtain ⟨a, bs, rfl, hq, q⟩ := h
  obtain ⟨u, rfl, ru⟩ := vals1 r
  cases (show u = Value.ref a from ru)
  obtain ⟨its, rv, pl, hz⟩ := I.list hq
  have hl := pl.isList
  have hlt : a < s.heap.objs.size := by obtain ⟨_, e, _⟩ := hl; exact Heap.lt_size e
  have hb := vals_bools rv
  subst hb
  refine call_all_walk (wpAny_pyIter_list hl ?_)
  refine ⟨s.heap.objs.size, [s.heap.objs.size, a], [s.heap.objs.size], (bs.map Value.bool).toArray.size, _, _, fun i => (bs[i]?).getD true, rfl, Walks.list (A := X.A.in1) (I.ok.hd hc) _ a (Nat.ne_of_lt hlt) (bs.map Value.bool).toArray,
    ⟨⟨_, Heap.get?_push_size _ rfl, rfl, rfl⟩, hl.push _⟩, fun i v s' Q' E' hP hQ => ?_, fun h' tk hk => ?_⟩
  · have hP : (bs.map Value.bool)[i]? = some v := by simpa using hP
    rw [List.getElem?_map] at hP
    cases e : bs[i]? with
    | none => rw [e] at hP; cases hP
    | some b =>
      rw [e] at hP; cases hP
      simp only [e, Option.getD_some] at hQ
      exact wpAny_truthy_bool hQ
  · have e : ((List.range (bs.map Value.bool).toArray.size).all fun i => (bs[i]?).getD true) = bs.all id := by
      rw [List.size_toArray, List.length_map]; exact LSm.range_all bs
    rw [e]
    exact ⟨.bl _, H, I.kept (t' := tk) (LSm.kept_iter hk), rfl, q⟩
end
end L2
namespace L2
open PySem PySem.Spec PyProof.Rows
section
variable {κ : Type} [DecidableEq κ]
def valV (kvs : List (κ × V)) (k : κ) : Option V := (kvs.find? fun kv => decide (kv.1 = k)).map (·.2)
def putK (kvs : List (κ × V)) (k : κ) (v : V) : List (κ × V) :=
  if (kvs.any fun kv => decide (kv.1 = k)) = true then kvs.map (fun kv => if kv.1 = k then (kv.1, v) else kv) else kvs ++ [(k, v)]
def dropK (kvs : List (κ × V)) (k : κ) : List (κ × V) := kvs.filter fun kv => decide (kv.1 ≠ k)
theorem valV_pos {p : κ × V} {r : List (κ × V)} {k : κ} (e : p.1 = k) : valV (p :: r) k = some p.2 := by simp [valV, List.find?_cons, e]
theorem valV_neg {p : κ × V} {r : List (κ × V)} {k : κ} (e : ¬ p.1 = k) : valV (p :: r) k = valV r k := by simp [valV, List.find?_cons, e]
theorem valV_any (k : κ) : ∀ kvs : List (κ × V), (kvs.any fun kv => decide (kv.1 = k)) = (valV kvs k).isSome
  | [] => rfl
  | p :: r => by
    rw [List.any_cons]
    by_cases e : p.1 = k
    · simp only [valV_pos e, decide_eq_true e, Bool.true_or, Option.isSome_some]
    · rw [valV_neg e, decide_eq_false e, Bool.false_or]; exact valV_any k r
theorem valV_snoc (k j : κ) (y : V) : ∀ kvs : List (κ × V), valV kvs k = none → valV (kvs ++ [(k, y)]) j = if j = k then some y else valV kvs j
  | [], _ => by
    by_cases e : k = j
    · rw [if_pos e.symm]; exact valV_pos (p := (k, y)) e
    · rw [if_neg (fun z => e z.symm)]; exact valV_neg (p := (k, y)) e
  | p :: r, hn => by
    rw [List.cons_append]
    have hk : ¬ p.1 = k := fun z => by rw [valV_pos z] at hn; cases hn
    rw [valV_neg hk] at hn
    have ih := valV_snoc k j y r hn
    by_cases e : p.1 = j
    · rw [valV_pos e, valV_pos e, if_neg (fun z => hk (e.trans z))]
    · rw [valV_neg e, valV_neg e, ih]
theorem length_putK (kvs : List (κ × V)) (k : κ) (v : V) : (putK kvs k v).length ≤ kvs.length + 1 := by
  unfold putK
  split
  · rw [List.length_map]; omega
  · rw [List.length_append, List.length_cons, List.length_nil]; omega
theorem putK_new {kvs : List (κ × V)} {k : κ} (v : V) (h : valV kvs k = none) : putK kvs k v = kvs ++ [(k, v)] := by
  unfold putK
  rw [valV_any, h]
  exact if_neg (by decide)
theorem RelO.isSome_eq {o : Option V} {u : Option Value} (r : RelO o u) : o.isSome = u.isSome := by
  cases o with
  | none => cases u with
    | none => rfl
    | some _ => exact (show False from r).elim
  | some _ => cases u with
    | none => exact (show False from r).elim
    | some _ => rfl
theorem RelO.getD {o : Option V} {u : Option Value} {d : V} {d' : Value} (r : RelO o u) (rd : RelV d d') : RelV (o.getD d) (u.getD d') := by
  cases o with
  | none => cases u with
    | none => exact rd
    | some _ => exact (show False from r).elim
  | some _ => cases u with
    | none => exact (show False from r).elim
    | some _ => exact r
theorem KV.val {kvs : List (κ × V)} {vs : List (κ × Value)} (r : KV kvs vs) (k : κ) : RelO (valV kvs k) (valueAt vs k) := by
  unfold KV at r
  induction r with
  | nil => exact True.intro
  | @cons p q ps qs h t ih =>
    obtain ⟨h1, h2⟩ := h
    by_cases e : p.1 = k
    · have e' : q.1 = k := h1.symm.trans e
      have b : valueAt (q :: qs) k = some q.2 := by simp [valueAt, List.find?_cons, e']
      rw [valV_pos e, b]; exact h2
    · have e' : ¬ q.1 = k := fun z => e (h1.trans z)
      have b : valueAt (q :: qs) k = valueAt qs k := by simp [valueAt, List.find?_cons, e']
      rw [valV_neg e, b]; exact ih
theorem KV.any {kvs : List (κ × V)} {vs : List (κ × Value)} (r : KV kvs vs) (k : κ) : (kvs.any fun kv => decide (kv.1 = k)) = vs.any fun kv => decide (kv.1 = k) := by
  unfold KV at r
  induction r with
  | nil => rfl
  | cons h t ih => rw [List.any_cons, List.any_cons, ih, h.1]
theorem KV.repl {kvs : List (κ × V)} {vs : List (κ × Value)} (r : KV kvs vs) (k : κ) {y : V} {u : Value} (ry : RelV y u) :
    KV (kvs.map fun kv => if kv.1 = k then (kv.1, y) else kv) (vs.map fun kv => if kv.1 = k then (kv.1, u) else kv) := by
  unfold KV at r ⊢
  induction r with
  | nil => exact .nil
  | @cons p q ps qs h t ih =>
    rw [List.map_cons, List.map_cons]
    refine .cons ?_ ih
    obtain ⟨h1, h2⟩ := h
    by_cases e : p.1 = k
    · rw [if_pos e, if_pos (h1.symm.trans e)]; exact ⟨h1, ry⟩
    · rw [if_neg e, if_neg (fun z => e (h1.trans z))]; exact ⟨h1, h2⟩
theorem KV.put {kvs : List (κ × V)} {vs : List (κ × Value)} (r : KV kvs vs) (k : κ) {y : V} {u : Value} (ry : RelV y u) : KV (putK kvs k y) (stored vs k u) := by
  unfold putK stored
  rw [r.any k]
  by_cases e : (vs.any fun kv => decide (kv.1 = k)) = true
  · rw [if_pos e, if_pos e]; exact r.repl k ry
  · rw [if_neg e, if_neg e]; exact Paired.snoc r ⟨rfl, ry⟩
theorem KV.drop {kvs : List (κ × V)} {vs : List (κ × Value)} (r : KV kvs vs) (k : κ) : KV (dropK kvs k) (without vs k) := by
  unfold KV at r ⊢
  unfold dropK without
  induction r with
  | nil => exact .nil
  | @cons p q ps qs h t ih =>
    obtain ⟨h1, h2⟩ := h
    rw [List.filter_cons, List.filter_cons]
    by_cases e : p.1 = k
    · have a : ¬ decide (p.1 ≠ k) = true := by simp [e]
      have b : ¬ decide (q.1 ≠ k) = true := by simp [h1.symm.trans e]
      rw [if_neg a, if_neg b]; exact ih
    · have e' : ¬ q.1 = k := fun z => e (h1.trans z)
      have a : decide (p.1 ≠ k) = true := by simp [e]
      have b : decide (q.1 ≠ k) = true := by simp [e']
      rw [if_pos a, if_pos b]; exact .cons ⟨h1, h2⟩ ih
theorem KV.keys {kvs : List (κ × V)} {vs : List (κ × Value)} (r : KV kvs vs) : kvs.map (·.1) = vs.map (·.1) := by
  unfold KV at r
  induction r with
  | nil => rfl
  | cons h t ih => rw [List.map_cons, List.map_cons, ih, h.1]
theorem KV.length {kvs : List (κ × V)} {vs : List (κ × Value)} (r : KV kvs vs) : kvs.length = vs.length := Paired.length r
end
theorem kV_is {P : Program} {w : World} {k : Key} {u : Value} (r : RelV (kV k) u) : (mixKind P w).is k u = true := by
  cases k with
  | inl i => obtain ⟨t, e⟩ := (show ∃ t, u = Value.int i t from r); subst e; exact mixKind_int P w i t
  | inr x => obtain ⟨t, e⟩ := (show ∃ t, u = Value.str x t from r); subst e; exact mixKind_str P w x t
theorem items_are {P : Program} {w : World} : ∀ {ks : List Key} {us : List Value}, Vals (ks.map kV) us → ItemsAre (mixKind P w) ks us
  | [], _, r => by rw [List.map_nil] at r; cases r; exact .nil
  | k :: ks, _, r => by
    rw [List.map_cons] at r
    cases r with
    | cons h t => exact .cons (kV_is h) (items_are t)
abbrev KT (H : Hp) : List (List Key × V) → List (List Key × Addr × Value) → Prop := Paired fun p q => p.1 = q.1 ∧ H q.2.1 = some (.tup (p.1.map kV)) ∧ RelV p.2 q.2.2
theorem KT.val {H : Hp} {kvs : List (List Key × V)} {xs : List (List Key × Addr × Value)} (r : KT H kvs xs) (k : List Key) : RelO (valV kvs k) ((atKey xs k).map (·.2)) := by
  induction r with
  | nil => exact True.intro
  | @cons p q ps qs h t ih =>
    obtain ⟨h1, _, h2⟩ := h
    by_cases e : p.1 = k
    · have e' : q.1 = k := h1.symm.trans e
      have b : atKey (q :: qs) k = some q.2 := by simp [atKey, List.find?_cons, e']
      rw [valV_pos e, b]; exact h2
    · have e' : ¬ q.1 = k := fun z => e (h1.trans z)
      have b : atKey (q :: qs) k = atKey qs k := by simp [atKey, List.find?_cons, e']
      rw [valV_neg e, b]; exact ih
theorem KT.repl {H : Hp} {kvs : List (List Key × V)} {xs : List (List Key × Addr × Value)} (r : KT H kvs xs) (k : List Key) {y : V} {u : Value} (ry : RelV y u) :
    KT H (kvs.map fun kv => if kv.1 = k then (kv.1, y) else kv) (xs.map (putAt k u)) := by
  induction r with
  | nil => exact .nil
  | @cons p q ps qs h t ih =>
    rw [List.map_cons, List.map_cons]
    refine .cons ?_ ih
    obtain ⟨h1, h2, h3⟩ := h
    unfold putAt
    by_cases e : p.1 = k
    · rw [if_pos e, if_pos (h1.symm.trans e)]; exact ⟨h1, h2, ry⟩
    · rw [if_neg e, if_neg (fun z => e (h1.trans z))]; exact ⟨h1, h2, h3⟩
theorem KT.put {H : Hp} {kvs : List (List Key × V)} {xs : List (List Key × Addr × Value)} (r : KT H kvs xs) (k : List Key) {b : Addr} {y : V} {u : Value} (hb : H b = some (.tup (k.map kV))) (ry : RelV y u) :
    KT H (putK kvs k y) (storedH xs k b u) := by
  have e : (kvs.any fun kv => decide (kv.1 = k)) = (atKey xs k).isSome := by
    rw [valV_any, (r.val k).isSome_eq, Option.isSome_map]
  unfold putK storedH
  rw [e]
  by_cases q : (atKey xs k).isSome = true
  · rw [if_pos q, if_pos q]; exact r.repl k ry
  · rw [if_neg q, if_neg q]; exact Paired.snoc r ⟨rfl, hb, ry⟩
theorem KT.keeps {H H' : Hp} {kvs : List (List Key × V)} {xs : List (List Key × Addr × Value)} (r : KT H kvs xs) (ht : ∀ b ys, H b = some (.tup ys) → H' b = some (.tup ys)) : KT H' kvs xs :=
  Paired.mapP r fun _ _ z => ⟨z.1, ht _ _ z.2.1, z.2.2⟩
section
variable {P : Program} {w : World} {H : Hp} {h : Heap} {a : Addr}
theorem rd_of {u : HO} (ok : HOk P w H h) (e : Rd H a u) : ObjOk P w H h a u := e.ok ok
theorem dk_rd {kvs : List (Key × V)} (ok : HOk P w H h) (e : Rd H a (.dK kvs)) : kvs.length ≤ sizeLine ∧ (a == sysModules) = false ∧ ∃ vs, KV kvs vs ∧ h.DictOf (mixKind P w) a vs :=
  show ObjOk P w H h a (.dK kvs) from rd_of ok e
theorem dk_of {kvs : List (Key × V)} (ok : HOk P w H h) (e : H a = some (.dK kvs)) : kvs.length ≤ sizeLine ∧ (a == sysModules) = false ∧ ∃ vs, KV kvs vs ∧ h.DictOf (mixKind P w) a vs := dk_rd ok (.inl e)
theorem key_of {ks : List Key} (ok : HOk P w H h) (e : H a = some (.tup (ks.map kV))) : (tupleKind (mixKind P w)).is h ks a := by
  obtain ⟨_, its, r, o, h1, h2, n, h3⟩ := (show ObjOk P w H h a (.tup (ks.map kV)) from ok a _ e)
  exact ⟨o, its.toArray, n, h1, h2, h3, by simpa using items_are r⟩
theorem dt_rd {kvs : List (List Key × V)} (ok : HOk P w H h) (e : Rd H a (.dT kvs)) : kvs.length ≤ sizeLine ∧ (a == sysModules) = false ∧
    ∃ xs, KT H kvs xs ∧ h.DictOfH (tupleKind (mixKind P w)) a xs := by
  obtain ⟨z, y, xs, r, o, es, ep, h1, h2, h3, h4, h5⟩ := (show ObjOk P w H h a (.dT kvs) from rd_of ok e)
  refine ⟨z, y, xs, r, o, es, ep, h1, h2, h3, h4, fun x hx => ?_, h5⟩
  have all : ∀ {l : List (List Key × V)} {m : List (List Key × Addr × Value)}, KT H l m → ∀ x ∈ m, (tupleKind (mixKind P w)).is h x.1 x.2.1 := by
    intro l m q
    induction q with
    | nil => intro x hx; exact nomatch hx
    | @cons p q ps qs hq t ih =>
      intro x hx
      rcases List.mem_cons.mp hx with e | hx
      · subst e
        exact key_of ok (by rw [← hq.1]; exact hq.2.1)
      · exact ih x hx
  exact all r x hx
theorem dt_of {kvs : List (List Key × V)} (ok : HOk P w H h) (e : H a = some (.dT kvs)) : kvs.length ≤ sizeLine ∧ (a == sysModules) = false ∧
    ∃ xs, KT H kvs xs ∧ h.DictOfH (tupleKind (mixKind P w)) a xs := dt_rd ok (.inl e)
end
def DGet (H : Hp) (a : Addr) (y : V) (r : Option V) : Prop :=
  (∃ kvs k, Rd H a (.dK kvs) ∧ y = kV k ∧ r = valV kvs k) ∨ ∃ kvs k b, Rd H a (.dT kvs) ∧ y = .ref b ∧ H b = some (.tup (k.map kV)) ∧ r = valV kvs k
def DPut (H : Hp) (a : Addr) (y v : V) (H' : Hp) : Prop :=
  (∃ kvs k, H a = some (.dK kvs) ∧ y = kV k ∧ kvs.length < sizeLine ∧ H' = upd H a (.dK (putK kvs k v))) ∨
  ∃ kvs k b, H a = some (.dT kvs) ∧ y = .ref b ∧ H b = some (.tup (k.map kV)) ∧ kvs.length < sizeLine ∧ H' = upd H a (.dT (putK kvs k v))
theorem DGet.k {H : Hp} {a : Addr} {kvs : List (Key × V)} {k : Key} (e : H a = some (.dK kvs)) : DGet H a (kV k) (valV kvs k) := .inl ⟨kvs, k, .inl e, rfl, rfl⟩
theorem DGet.t {H : Hp} {a b : Addr} {kvs : List (List Key × V)} {k : List Key} (e : H a = some (.dT kvs)) (eb : H b = some (.tup (k.map kV))) : DGet H a (.ref b) (valV kvs k) := .inr ⟨kvs, k, b, .inl e, rfl, eb, rfl⟩
theorem DPut.k {H : Hp} {a : Addr} {kvs : List (Key × V)} {k : Key} {v : V} (e : H a = some (.dK kvs)) (hl : kvs.length < sizeLine) : DPut H a (kV k) v (upd H a (.dK (putK kvs k v))) := .inl ⟨kvs, k, e, rfl, hl, rfl⟩
theorem DPut.t {H : Hp} {a b : Addr} {kvs : List (List Key × V)} {k : List Key} {v : V} (e : H a = some (.dT kvs)) (eb : H b = some (.tup (k.map kV))) (hl : kvs.length < sizeLine) :
    DPut H a (.ref b) v (upd H a (.dT (putK kvs k v))) := .inr ⟨kvs, k, b, e, rfl, eb, hl, rfl⟩
section
variable {X : Cx} {pins : List (Addr × Obj)} {σ : St} {H : Hp} {s : Shared} {a : Addr} {y v : V} {u r : Value} {o : Option V} {A : Around} {E : Value → Shared → Prop}
theorem Inv.big (I : Inv X pins σ H s) : sysModules < s.heap.objs.size := by
  have h : mainGlobals < s.heap.objs.size := (I.mod.glob.keeps I.bk).lt
  exact Nat.lt_trans (by decide) h
theorem d_in {Q : Value → Shared → Prop} (hu : A.units + 1 < cLine) (I : Inv X pins σ H s) (g : DGet H a y o) (ry : RelV y u) (h : ∀ s', Inv X pins σ H s' → Q (.bool o.isSome) s') :
    wpAny (model X.prog X.w) A (compareOp .In u (.ref a)) Q E s := by
  rcases g with ⟨kvs, k, e, ey, l⟩ | ⟨kvs, k, b, e, ey, eb, l⟩
  · subst ey
    obtain ⟨z, hd, vs, rel, dd⟩ := dk_rd I.hok e
    refine wpAny_in_of (kV_is ry) hd dd.mapOf ?_
    rw [← (rel.val k).isSome_eq, ← l]
    exact h _ (I.tok _)
  · subst ey
    cases (show u = Value.ref b from ry)
    obtain ⟨z, hd, xs, rel, dd⟩ := dt_rd I.hok e
    refine wpAny_in_heap (tupleKind_room_in1 hu) (key_of I.hok eb) hd dd ?_
    have q := (rel.val k).isSome_eq
    rw [Option.isSome_map] at q
    rw [← q, ← l]
    exact h _ (I.tok _)
theorem d_write {h' : Heap} {t' : Nat} {ob : HO} (I : Inv X pins σ H s) (mu : Mut (H a)) (hs : Heap.SameBut a s.heap h') (he : ∃ q, h'.get? a = some q) (new : ObjOk X.prog X.w (upd H a ob) h' a ob) :
    Inv X pins σ (upd H a ob) { s with heap := h', toks := t' } :=
  I.write (x := a) (e := a) mu (.inl rfl) (fun b q hb z => (hs.2 b hb).trans z) he new
theorem dk_new {P : Program} {w : World} {H' : Hp} {h' : Heap} {kvs : List (Key × V)} {vs : List (Key × Value)} (z : kvs.length ≤ sizeLine) (hd : (a == sysModules) = false) (rel : KV kvs vs) (dd : h'.DictOf (mixKind P w) a vs) :
    ObjOk P w H' h' a (.dK kvs) := ⟨z, hd, vs, rel, dd⟩
theorem d_setItem {H' : Hp} {Q : Unit → Shared → Prop} (hu : A.units + 1 < cLine) (I : Inv X pins σ H s) (g : DPut H a y v H') (ry : RelV y u) (rv : RelV v r) (h : ∀ s', Inv X pins σ H' s' → Q () s') :
    wpAny (model X.prog X.w) A (setItem (.ref a) u r) Q E s := by
  rcases g with ⟨kvs, k, e, ey, l, eH⟩ | ⟨kvs, k, b, e, ey, eb, l, eH⟩
  · subst ey eH
    obtain ⟨z, hd, vs, rel, dd⟩ := dk_of I.hok e
    have hz : vs.length ≤ sizeLine := by rw [← rel.length]; exact z
    have hl : (putK kvs k v).length ≤ sizeLine := by have := length_putK kvs k v; omega
    refine wpAny_setItem_pairs (hsz := hz) (kV_is ry) dd fun h' dd' hs => h _ ?_
    have he : ∃ q, h'.get? a = some q := let ⟨q, _, _, hq, _⟩ := dd'; ⟨q, hq⟩
    exact d_write I (by rw [e]; exact True.intro) hs he (dk_new hl hd (rel.put k rv) dd')
  · subst ey eH
    cases (show u = Value.ref b from ry)
    obtain ⟨z, hd, xs, rel, dd⟩ := dt_of I.hok e
    have hz : xs.length ≤ sizeLine := by rw [← Paired.length rel]; exact z
    have hl : (putK kvs k v).length ≤ sizeLine := by have := length_putK kvs k v; omega
    refine wpAny_setItem_heap (hsz := hz) (tupleKind_room_in1 hu) (key_of I.hok eb) dd fun h' dd' hs => h _ ?_
    obtain ⟨q, es, ep, hq, h2, h3, h4, _, h5⟩ := dd'
    refine d_write I (by rw [e]; exact True.intro) hs ⟨q, hq⟩ ⟨hl, hd, _, (rel.put k eb rv).keeps fun c ys ec => ?_, q, es, ep, hq, h2, h3, h4, h5⟩
    rw [upd_ne (ne_of ec e (fun z => nomatch z))]
    exact ec
end
section
variable {X : Cx} {pins : List (Addr × Obj)} {σ : St} {H : Hp} {s : Shared} {a : Addr} {kvs : List (Key × V)} {k : Key} {u : Value} {A : Around} {E : Value → Shared → Prop}
end
def NoSl (i : Expr) : Prop := ∀ ov iv, subscripted i false ov iv = operate [ov, iv] (getItem ov iv)
theorem subD_of {prog : Program} {w : World} {A : Around} {E : Value → Shared → Prop} {s : Shared} {env : Env} {value slice : Expr} {pos : Pos} {T id : String} {Q : Value → Shared → Prop}
    (hl : typeLookup (.type T) "__getitem__" = pure (some (.builtin id))) (hs : NoSl slice)
    (h : wpAny (model prog w) A (eval value env) (fun o s₁ => wpAny (model prog w) A (eval slice env) (fun i s₂ => s₂.TypeIs o T ∧ wpAny (model prog w) A (getItem o i) Q E s₂) E s₁) E s) :
    wpAny (model prog w) A (eval (.Subscript value slice pos) env) Q E s := by
  refine Subscript_ (wpAny_mono h (fun o s₁ h₁ => wpAny_mono h₁ (fun i s₂ h₂ => ?_) fun _ _ x => x) fun _ _ x => x)
  obtain ⟨hT, h₂⟩ := h₂
  unfold subscriptTail
  refine wpAny_bind ?_
  rw [getitemInPython_of_ne hT.not_modules]
  refine wpAny_bind (wpAny_specialOf hT hl ?_)
  have fin : wpAny (model prog w) A (subscripted slice false o i) (fun r s₃ => wpAny (model prog w) A (letTemporaryGo value o r >>= fun _ => pure r) Q E s₃) E s₂ := by
    rw [hs o i]
    exact wpAny_operating (wpAny_mono h₂ (fun r s₃ h₃ => wpAny_bind (wpAny_letTemporaryGo (wpAny_pure h₃))) fun _ _ x => x)
  first
    | exact wpAny_pure (wpAny_bind fin)
    | exact wpAny_bind (wpAny_pure (wpAny_bind fin))
    | exact wpAny_bind fin
def tDIn (ty td : TE) : TE := fun σ H Q => ty σ H fun y H1 => td σ H1 fun x H2 => ∃ a o, x = .ref a ∧ DGet H2 a y o ∧ Q (.bl o.isSome) H2
def sDPut (td ty tv : TE) : TS := fun D σ H => tv σ H fun v H1 => td σ H1 fun x H2 => ty σ H2 fun y H3 => ∃ a H4, x = .ref a ∧ DPut H3 a y v H4 ∧ D.nx σ H4
section
variable {X : Cx} {o i e value : Expr} {pos pos' tpos : Pos} {td ty tv : TE}
theorem pc_din (hu : X.A.units + 1 < cLine) (hi : PE X i ty) (ho : PE X o td) : PC X .In i o (tDIn ty td) := by
  intro pins s σ H Q I h
  refine thn (hi pins s σ H _ I h) fun iv s1 ⟨y, H1, I1, ry, q1⟩ => thn (ho pins s1 σ H1 _ I1 q1) fun u s2 ⟨x, H2, I2, rx, a, ov, ex, g, q2⟩ => ?_
  subst ex
  obtain rfl : u = Value.ref a := rx
  exact d_in hu I2 g ry fun s3 I3 => ⟨.bl ov.isSome, H2, I3, rfl, q2⟩
theorem ps_dput (hu : X.A.units + 1 < cLine) (ho : PE X o td) (hi : PE X i ty) (hv : PE X value tv) (hs : swapsWith value (some (.Subscript o i pos')) pos.line X.env = pure false) :
    PS X (.Assign [.Subscript o i pos'] value pos) (sDPut td ty tv) := by
  intro pins s σ H D I h
  refine wpAny_Assign_Subscript (thn (hv pins s σ H _ I h) fun r s1 ⟨v, H1, I1, rv, q1⟩ => thn (ho pins s1 σ H1 _ I1 q1) fun u s2 ⟨x, H2, I2, rx, q2⟩ => thn (hi pins s2 σ H2 _ I2 q2) fun iv s3 ⟨y, H3, I3, ry, a, H4, ex, g, q3⟩ => ?_) hs
  subst ex
  obtain rfl : u = Value.ref a := rx
  exact d_setItem hu I3 g ry rv fun s4 I4 => ⟨σ, H4, I4, q3⟩
end
theorem dk_empty {P : Program} {w : World} {H : Hp} (h : Heap) (hb : sysModules < h.objs.size) : ObjOk P w H (h.push { cls := .type "dict", data := .dict #[] }) h.objs.size (.dK []) :=
  ⟨Nat.zero_le _, beq_eq_false_iff_ne.mpr (Ne.symm (Nat.ne_of_lt hb)), [], .nil, Heap.DictOf.new h⟩
def tDNewK : TE := fun _ H Q => ∀ p, H p = none → Q (.ref p) (upd H p (.dK []))
section
variable {X : Cx} {pos : Pos}
theorem pe_dnewK : PE X (.Dict [] [] pos) tDNewK := fun pins s σ H Q I h =>
  wpAny_Dict_empty ⟨.ref s.heap.objs.size, _, I.laid (a := s.heap.objs.size) (o := .dK []) (t' := s.toks) (fun _ _ q => Heap.get?_push_of_some _ q) (Nat.le_refl _) (dk_empty s.heap I.big), rfl, h _ (I.hok.fresh (Nat.le_refl _))⟩
end
structure M1 (X : Cx) (o : Expr) (m : Str) (apos : Pos) (e : Expr) (cpos : Pos) : Prop where
  base : attributeBase o m X.env (eval o X.env) = eval o X.env
  few : ((backTo cpos (starEach [e] X.env)).all (fun x => !x.1) && (backToKw cpos (keywordEach [] X.env)).all (fun x => x.1.isSome)
    && decide (([e] : List Expr).length + ([] : List Keyword).length + (if ([] : List Keyword).isEmpty then 0 else 1) < 30)) = true
  line : (apos.endLine == cpos.line) = true
  trees : backTo cpos (starEach [e] X.env) = [(false, eval e X.env)]
structure M2 (X : Cx) (o : Expr) (m : Str) (apos : Pos) (e f : Expr) (cpos : Pos) : Prop where
  base : attributeBase o m X.env (eval o X.env) = eval o X.env
  few : ((backTo cpos (starEach [e, f] X.env)).all (fun x => !x.1) && (backToKw cpos (keywordEach [] X.env)).all (fun x => x.1.isSome)
    && decide (([e, f] : List Expr).length + ([] : List Keyword).length + (if ([] : List Keyword).isEmpty then 0 else 1) < 30)) = true
  line : (apos.endLine == cpos.line) = true
  trees : backTo cpos (starEach [e, f] X.env) = [(false, eval e X.env), (false, eval f X.env)]
def IsD (H : Hp) (a : Addr) : Prop := (∃ kvs, Rd H a (.dK kvs)) ∨ ∃ kvs, Rd H a (.dT kvs)
theorem isD_at {X : Cx} {pins : List (Addr × Obj)} {σ : St} {H : Hp} {s : Shared} {a : Addr} (I : Inv X pins σ H s) (d : IsD H a) :
    s.TypeIs (.ref a) "dict" ∧ (∀ b, Value.ref a = .ref b → ∃ ob, s.heap.get? b = some ob ∧ ob.dict = none) ∧ (a == sysModules) = false := by
  rcases d with ⟨kvs, e⟩ | ⟨kvs, e⟩
  · obtain ⟨_, hd, vs, _, dd⟩ := dk_rd I.hok e
    refine ⟨dd.typeIs, fun b q => ?_, hd⟩
    cases q
    obtain ⟨ob, _, _, h1, h2, _⟩ := dd
    exact ⟨ob, h1, h2.2.1⟩
  · obtain ⟨_, hd, xs, _, dd⟩ := dt_rd I.hok e
    refine ⟨dd.typeIs, fun b q => ?_, hd⟩
    cases q
    obtain ⟨ob, _, _, h1, h2, _⟩ := dd
    exact ⟨ob, h1, h2.2.1⟩
section
variable {X : Cx} {pins : List (Addr × Obj)} {σ : St} {H : Hp} {s : Shared} {a : Addr} {y d : V} {u r : Value} {o : Option V} {A : Around} {E : Value → Shared → Prop}
theorem d_get1 {Q : Value → Shared → Prop} (hu : A.units + 1 < cLine) (I : Inv X pins σ H s) (g : DGet H a y o) (ry : RelV y u) (h : ∀ w' s', Inv X pins σ H s' → RelV (o.getD .non) w' → Q w' s') :
    wpAny (model X.prog X.w) A (call (.builtin "dict.get") [.ref a, u]) Q E s := by
  rcases g with ⟨kvs, k, e, ey, l⟩ | ⟨kvs, k, b, e, ey, eb, l⟩
  · subst ey
    obtain ⟨z, hd, vs, rel, dd⟩ := dk_rd I.hok e
    refine call_meetsIn PySem.F.slot_dict_get dd.typeIs PySem.F.entry_dict_get (PySem.F.args_dict_get_2 _ _) (meets_dict_get (mixKind X.prog X.w) a (kV_is ry) hd) ⟨_, dd.mapOf, h _ _ (I.tok _) ?_⟩
    rw [l]
    exact (rel.val k).getD rfl
  · subst ey
    cases (show u = Value.ref b from ry)
    obtain ⟨z, hd, xs, rel, dd⟩ := dt_rd I.hok e
    refine call_meetsIn PySem.F.slot_dict_get dd.typeIs PySem.F.entry_dict_get (PySem.F.args_dict_get_2 _ _) (meetsH_dict_get (tupleKind (mixKind X.prog X.w)) a b hd) ⟨tupleKind_room_in1 hu, k, xs, key_of I.hok eb, dd, h _ _ (I.tok _) ?_⟩
    rw [l]
    exact (rel.val k).getD rfl
end
def tDGet1 (td ty : TE) : TE := fun σ H Q => td σ H fun x H1 => ∃ a, x = .ref a ∧ IsD H1 a ∧ ty σ H1 fun y H2 => ∃ o, DGet H2 a y o ∧ Q (o.getD .non) H2
section
variable {X : Cx} {o e f : Expr} {apos cpos : Pos} {td ty tx : TE}
theorem pe_dget1 (hu : X.A.units + 1 < cLine) (ho : PE X o td) (he : PE X e ty) (m : M1 X o "get" apos e cpos) : PE X (.Call (.Attribute o "get" apos) [e] [] cpos) (tDGet1 td ty) := by
  intro pins s σ H Q I h
  refine wpAny_Call_method m.base m.few m.line PySem.F.plainAttrs_dict PySem.F.slot_dict_get PySem.F.type_dict_get (thn (ho pins s σ H _ I h) fun u s1 ⟨x, H1, I1, rx, a, ex, d, q1⟩ => ?_)
  subst ex
  obtain rfl : u = Value.ref a := rx
  obtain ⟨t1, t2, _⟩ := isD_at I1 d
  refine ⟨t1, t2, ?_⟩
  rw [m.trees]
  refine Calls.callWith_builtin rfl (Calls.evalArgs_plain (Calls.spliced_cons (thn (he pins s1 σ H1 _ I1 q1) fun iv s2 ⟨y, H2, I2, ry, ov, g, q2⟩ => Calls.spliced_nil ?_)))
  exact d_get1 hu I2 g ry fun w' s3 I3 rw' => ⟨_, H2, I3, rw', q2⟩
end
section
variable {X : Cx} {pins : List (Addr × Obj)} {σ : St} {H : Hp} {s : Shared} {a : Addr} {kvs : List (Key × V)} {A : Around} {E : Value → Shared → Prop}
end
section
variable {X : Cx} {pins : List (Addr × Obj)} {σ : St} {H : Hp} {s : Shared} {a : Addr} {y : V} {u : Value} {A : Around} {E : Value → Shared → Prop}
end
end L2
namespace L2
open PySem PySem.Spec PyProof.Rows
section
variable {X : Cx}
end
section
variable {κ : Type} [DecidableEq κ]
end
end L2
namespace L2
open PySem PySem.Spec PyProof.Rows
def KTab (P : Program) (w : World) (K : PySem.W.Frag) (d : Addr) (kvs : List (Str × Addr)) : Prop := (d == sysModules) = false ∧ ∀ h : Heap, K.In h → h.DictOf (mixKind P w) d (kvs.map fun p => ((Sum.inr p.1 : Key), Value.ref p.2))
def entT (pm : Params) (l : List (Str × Tok × Addr)) : List DictEntry := l.map fun p => ⟨PyData.keyHash pm p.1, .str p.1 p.2.1, .ref p.2.2⟩
theorem KTab.mk {P : Program} {w : World} {K : PySem.W.Frag} {d : Addr} {l : List (Str × Tok × Addr)} {es : Array DictEntry} {n : Nat} (hd : (d == sysModules) = false) (hl : K.lookup d = some { cls := .type "dict", data := .dict es n }) (he : es.toList = entT w.params l) (nd : (l.map (·.1)).Nodup) :
    KTab P w K d (l.map fun p => (p.1, p.2.2)) := by
  refine ⟨hd, fun h KI => ⟨_, es, n, KI d _ hl, ⟨rfl, rfl, rfl⟩, rfl, ?_, ?_, ?_⟩⟩
  · intro e hm
    have hm : e ∈ es.toList := Array.mem_toList_iff.mpr hm
    rw [he] at hm
    obtain ⟨p, _, rfl⟩ := List.mem_map.mp hm
    exact ⟨Sum.inr p.1, keyIs_str p.1 p.2.1, rfl⟩
  · rw [he]
    clear he nd hl
    induction l with
    | nil => exact .nil
    | cons p r ih => exact .cons (keyIs_str p.1 p.2.1) rfl ih
  · rw [List.map_map, List.map_map]
    have e : ((fun x : Key × Value => x.1) ∘ (fun p : Str × Addr => ((Sum.inr p.1 : Key), Value.ref p.2))) ∘ (fun p : Str × Tok × Addr => (p.1, p.2.2)) = (fun x : Str => (Sum.inr x : Key)) ∘ fun p => p.1 := rfl
    rw [← List.map_map] at *
    have z : (l.map fun p => (Sum.inr p.1 : Key)).Nodup := by
      have : (l.map fun p => (Sum.inr p.1 : Key)) = (l.map (·.1)).map (fun x : Str => (Sum.inr x : Key)) := by rw [List.map_map]; rfl
      rw [this]
      exact List.Pairwise.map _ (fun a b (h : a ≠ b) z => h (Sum.inr.inj z)) nd
    simpa [List.map_map, Function.comp_def] using z
theorem ktab_val {kvs : List (Str × Addr)} {x : Str} : valueAt (kvs.map fun p => ((Sum.inr p.1 : Key), Value.ref p.2)) (Sum.inr x) = (kvs.lookup x).map Value.ref := by
  induction kvs with
  | nil => rfl
  | cons p r ih =>
    obtain ⟨k, a⟩ := p
    unfold valueAt at *
    rw [List.map_cons, List.find?_cons, List.lookup_cons]
    by_cases e : x = k
    · subst e; simp
    · have h1 : decide ((Sum.inr k : Key) = Sum.inr x) = false := decide_eq_false fun z => e (Sum.inr.inj z).symm
      have h2 : (x == k) = false := beq_eq_false_iff_ne.mpr e
      rw [h2]
      simp only [h1]
      exact ih
section
variable {X : Cx}
def rKTab (kvs : List (Str × Addr)) : V → Hp → VK → Prop := fun y H Q => ∃ x a, y = .str x ∧ kvs.lookup x = some a ∧ Q (.ref a) H
def tKTab (kvs : List (Str × Addr)) (te : TE) : TE := fun σ H Q => te σ H fun y H1 => rKTab kvs y H1 Q
theorem pe_ktab {n : Str} {i : Expr} {np pos : Pos} {d : Addr} {kvs : List (Str × Addr)} {te : TE} (hg : Gl X n) (hm : X.mg n = some (.ref d)) (T : KTab X.prog X.w X.K d kvs) (hi : PE X i te) (hs : NoSl i) (hdb : (n == ("__debug__" : Str)) = false := by decide) :
    PE X (.Subscript (.Name n np) i pos) (tKTab kvs te) := by
  intro pins s σ H Q I h
  refine subD_of PySem.F.slot_dict_getitem.lookup hs (ld_glob I hg hm (thn (hi pins s σ H _ I h) fun iv s2 ⟨y, H2, I2, ry, x, a, ey, l, q⟩ => ?_) hdb)
  subst ey
  obtain ⟨t, rfl⟩ := ry
  have dd := T.2 s2.heap I2.kIn
  refine ⟨dd.typeIs, wpAny_getItem_of (keyIs_str x t) dd.mapOf (v := .ref a) (by rw [ktab_val, l]; rfl) ⟨.ref a, H2, I2.tok _, rfl, q⟩⟩
def tKIn (kvs : List (Str × Addr)) (te : TE) : TE := fun σ H Q => te σ H fun y H1 => ∃ x, y = .str x ∧ Q (.bl (kvs.lookup x).isSome) H1
theorem pc_kin {n : Str} {i : Expr} {np : Pos} {d : Addr} {kvs : List (Str × Addr)} {te : TE} (hg : Gl X n) (hm : X.mg n = some (.ref d)) (T : KTab X.prog X.w X.K d kvs) (hi : PE X i te) (hdb : (n == ("__debug__" : Str)) = false := by decide) :
    PC X .In i (.Name n np) (tKIn kvs te) := by
  intro pins s σ H Q I h
  refine thn (hi pins s σ H _ I h) fun iv s1 ⟨y, H1, I1, ry, x, ey, q⟩ => ld_glob I1 hg hm ?_ hdb
  subst ey
  obtain ⟨t, rfl⟩ := ry
  have dd := T.2 s1.heap I1.kIn
  refine wpAny_in_of (k := Sum.inr x) (show (mixKind X.prog X.w).is (Sum.inr x) (Value.str x t) = true from keyIs_str x t) T.1 dd.mapOf ?_
  rw [ktab_val, Option.isSome_map]
  exact ⟨.bl _, H1, I1.tok _, rfl, q⟩
end
def KTup (K : PySem.W.Frag) (a : Addr) (xs : List V) : Prop := ∃ (o : Obj) (its : Array Value) (n : Nat), K.lookup a = some o ∧ o.cls = .type "tuple" ∧ o.data = .seq its n ∧ its.size ≤ sizeLine ∧ Vals xs its.toList
theorem KTup.sq {K : PySem.W.Frag} {a : Addr} {xs : List V} (h : KTup K a xs) {H : Hp} : SqT K H a xs := .inr h
end L2
namespace L2
open PySem PySem.Spec PyProof.Rows
section
variable {pg : Program} {wd : World} {B : Around} {X0 : Value → Shared → Prop} {s0 : Shared}
end
def ItzM (K : PySem.W.Frag) (a b : Addr) : It := ⟨fun i H => ∃ xs ys x y, SqL K H a xs ∧ SqT K H b ys ∧ xs[i]? = some x ∧ ys[i]? = some y,
  fun i H v H' => ∃ T x y, v = .ref T ∧ H T = none ∧ H' = upd H T (.tup [x, y]) ∧ ∀ xs ys, SqL K H a xs → SqT K H b ys → xs[i]? = some x ∧ ys[i]? = some y, fun i H => ∃ xs ys, SqL K H a xs ∧ SqT K H b ys ∧ (xs.length ≤ i ∨ ys.length ≤ i)⟩
section
variable {X : Cx} {es : List Expr} {x1 : Nat} {pp : Pos}
def iZipM (K : PySem.W.Frag) (ta : TA) : TI := fun σ H R => ta σ H fun vs H1 => ∃ a b xs ys, vs = [.ref a, .ref b] ∧ SqL K H1 a xs ∧ SqT K H1 b ys ∧ R (ItzM K a b) H1
end
def LoopZM (K : PySem.W.Frag) (g : TG) (tb : TS) (D : Ends) (σ : St) (vs : List V) (H1 : Hp) : Prop := ∃ a b xs ys, vs = [.ref a, .ref b] ∧ SqL K H1 a xs ∧ SqT K H1 b ys ∧ ∃ W : Nat → Nat → St → Hp → Prop, (∃ m, W 0 m σ H1) ∧ ∀ i m σ H, W i m σ H →
  ((ItzM K a b).stop i H ∧ D.nx σ H) ∨ ((ItzM K a b).go i H ∧ ∃ N : St → Hp → Prop, (∀ σ' H', N σ' H' → ∃ m', m' < m ∧ W (i + 1) m' σ' H') ∧ ∀ x H', (ItzM K a b).yld i H x H' → g x σ H' fun σ2 H2 => tb { D with nx := N, ct := N, bk := D.nx } σ2 H2)
theorem for_eqZM {K : PySem.W.Frag} {ta : TA} {g : TG} {tb : TS} {D : Ends} {σ : St} {H : Hp} : tFor (iZipM K ta) g tb D σ H = ta σ H fun vs H1 => LoopZM K g tb D σ vs H1 := rfl
theorem LoopZM.mk {K : PySem.W.Frag} {a b : Addr} {xs ys : List V} {g : TG} {tb : TS} {D : Ends} {σ : St} {H : Hp} (n : Nat) (hn : n = min xs.length ys.length) (h1 : SqL K H a xs) (h2 : SqT K H b ys) (Pv : Nat → St → Hp → Prop) (h0 : Pv 0 σ H) (hl : ∀ i σ H, i ≤ n → Pv i σ H → SqL K H a xs ∧ SqT K H b ys)
    (hs : ∀ i x y σ H T, i < n → xs[i]? = some x → ys[i]? = some y → Pv i σ H → H T = none → g (.ref T) σ (upd H T (.tup [x, y])) fun σ2 H2 => tb { D with nx := Pv (i + 1), ct := Pv (i + 1), bk := D.nx } σ2 H2) (hd : ∀ σ H, Pv n σ H → D.nx σ H) :
    LoopZM K g tb D σ [.ref a, .ref b] H := by
  subst hn
  refine ⟨a, b, xs, ys, rfl, h1, h2, fun i m σ H => m = min xs.length ys.length - i ∧ i ≤ min xs.length ys.length ∧ Pv i σ H, ⟨_, rfl, Nat.zero_le _, h0⟩, ?_⟩
  rintro i m σ H ⟨rfl, hi, p⟩
  obtain ⟨k1, k2⟩ := hl i σ H hi p
  by_cases hlt : i < min xs.length ys.length
  · have l1 : i < xs.length := by omega
    have l2 : i < ys.length := by omega
    refine .inr ⟨⟨xs, ys, _, _, k1, k2, List.getElem?_eq_getElem l1, List.getElem?_eq_getElem l2⟩, Pv (i + 1), fun σ' H' p' => ⟨min xs.length ys.length - (i + 1), by omega, rfl, hlt, p'⟩, fun v H' yy => ?_⟩
    obtain ⟨T, x, y, rfl, hT, rfl, ex⟩ := yy
    obtain ⟨ex1, ex2⟩ := ex xs ys k1 k2
    exact hs i x y σ H T hlt ex1 ex2 p hT
  · have e : i = min xs.length ys.length := by omega
    exact .inl ⟨⟨xs, ys, k1, k2, by omega⟩, hd σ H (e ▸ p)⟩
def CompZM (K : PySem.W.Frag) (k : Nat) (js : List Nat) (g : TG) (te : TE) (σ : St) (vs : List V) (H1 : Hp) (Q : VK) : Prop := ∃ a b xs ys, vs = [.ref a, .ref b] ∧ SqL K H1 a xs ∧ SqT K H1 b ys ∧ ∃ W : Nat → Nat → List V → St → Hp → Prop, (∃ m, W 0 m [] (compSt k js σ) H1) ∧ ∀ i m zs σ' H', W i m zs σ' H' →
    ((ItzM K a b).stop i H' ∧ ∀ p, H' p = none → Q (.ref p) (upd H' p (.lst zs))) ∨
    ((ItzM K a b).go i H' ∧ zs.length < sizeLine ∧ ∃ N : List V → St → Hp → Prop, (∀ zs σ2 H2, N zs σ2 H2 → ∃ m', m' < m ∧ W (i + 1) m' zs σ2 H2) ∧ ∀ x H2, (ItzM K a b).yld i H' x H2 → g x σ' H2 fun σ3 H3 => te σ3 H3 fun v H4 => N (zs ++ [v]) σ3 H4)
theorem comp_eqZM {K : PySem.W.Frag} {k : Nat} {js : List Nat} {ta : TA} {g : TG} {te : TE} {σ : St} {H : Hp} {Q : VK} : tComp (iZipM K ta) k js g te σ H Q = ta σ H fun vs H1 => CompZM K k js g te σ vs H1 Q := rfl
theorem CompZM.mk {K : PySem.W.Frag} {a b : Addr} {xs ys : List V} {k : Nat} {js : List Nat} {g : TG} {te : TE} {Q : VK} {σ : St} {H : Hp} (n : Nat) (hn : n = min xs.length ys.length) (h1 : SqL K H a xs) (h2 : SqT K H b ys) (Pv : Nat → List V → St → Hp → Prop) (h0 : Pv 0 [] (compSt k js σ) H) (hl : ∀ i zs σ H, i ≤ n → Pv i zs σ H → SqL K H a xs ∧ SqT K H b ys)
    (hs : ∀ i x y zs σ H T, i < n → xs[i]? = some x → ys[i]? = some y → Pv i zs σ H → H T = none → zs.length < sizeLine ∧ g (.ref T) σ (upd H T (.tup [x, y])) fun σ3 H3 => te σ3 H3 fun v H4 => Pv (i + 1) (zs ++ [v]) σ3 H4) (hz : ∀ zs σ H, Pv n zs σ H → ∀ p, H p = none → Q (.ref p) (upd H p (.lst zs))) (hlen : ∀ i zs σ H, Pv i zs σ H → zs.length < sizeLine) :
    CompZM K k js g te σ [.ref a, .ref b] H Q := by
  subst hn
  refine ⟨a, b, xs, ys, rfl, h1, h2, fun i m zs σ H => m = min xs.length ys.length - i ∧ i ≤ min xs.length ys.length ∧ Pv i zs σ H, ⟨_, rfl, Nat.zero_le _, h0⟩, ?_⟩
  rintro i m zs σ H ⟨rfl, hi, p⟩
  obtain ⟨k1, k2⟩ := hl i zs σ H hi p
  by_cases hlt : i < min xs.length ys.length
  · have l1 : i < xs.length := by omega
    have l2 : i < ys.length := by omega
    refine .inr ⟨⟨xs, ys, _, _, k1, k2, List.getElem?_eq_getElem l1, List.getElem?_eq_getElem l2⟩, hlen _ _ _ _ p, Pv (i + 1), fun zs' σ' H' p' => ⟨min xs.length ys.length - (i + 1), by omega, rfl, hlt, p'⟩, fun v H' yy => ?_⟩
    obtain ⟨T, x, y, rfl, hT, rfl, ex⟩ := yy
    obtain ⟨ex1, ex2⟩ := ex xs ys k1 k2
    exact (hs i x y zs σ H T hlt ex1 ex2 p hT).2
  · have e : i = min xs.length ys.length := by omega
    exact .inl ⟨⟨xs, ys, k1, k2, by omega⟩, hz zs σ H (e ▸ p)⟩
def CompTI (K : PySem.W.Frag) (k : Nat) (js : List Nat) (g : TG) (tc : TT) (te : TE) (σ : St) (v : V) (H1 : Hp) (Q : VK) : Prop := ∃ a, v = .ref a ∧ (∃ xs, SqT K H1 a xs) ∧ ∃ W : Nat → Nat → List V → St → Hp → Prop, (∃ m, W 0 m [] (compSt k js σ) H1) ∧ ∀ i m zs σ' H', W i m zs σ' H' →
    ((Itt K a).stop i H' ∧ ∀ p, H' p = none → Q (.ref p) (upd H' p (.lst zs))) ∨
    ((Itt K a).go i H' ∧ zs.length < sizeLine ∧ ∃ N : List V → St → Hp → Prop, (∀ zs σ2 H2, N zs σ2 H2 → ∃ m', m' < m ∧ W (i + 1) m' zs σ2 H2) ∧ ∀ x H2, (Itt K a).yld i H' x H2 → g x σ' H2 fun σ3 H3 => tc σ3 H3 fun b H4 => if b = true then te σ3 H4 fun v H5 => N (zs ++ [v]) σ3 H5 else N zs σ3 H4)
theorem comp_eqTI {K : PySem.W.Frag} {k : Nat} {js : List Nat} {tx : TE} {g : TG} {tc : TT} {te : TE} {σ : St} {H : Hp} {Q : VK} : tCompI (iTup K tx) k js g tc te σ H Q = tx σ H fun v H1 => CompTI K k js g tc te σ v H1 Q := rfl
theorem CompTI.mk {K : PySem.W.Frag} {a : Addr} {xs : List V} {k : Nat} {js : List Nat} {g : TG} {tc : TT} {te : TE} {Q : VK} {σ : St} {H : Hp} (h1 : SqT K H a xs) (Pv : Nat → List V → St → Hp → Prop) (h0 : Pv 0 [] (compSt k js σ) H) (hl : ∀ i zs σ H, i ≤ xs.length → Pv i zs σ H → SqT K H a xs ∧ zs.length < sizeLine)
    (hs : ∀ i x zs σ H, xs[i]? = some x → Pv i zs σ H → g x σ H fun σ3 H3 => tc σ3 H3 fun b H4 => if b = true then te σ3 H4 fun v H5 => Pv (i + 1) (zs ++ [v]) σ3 H5 else Pv (i + 1) zs σ3 H4) (hz : ∀ zs σ H, Pv xs.length zs σ H → ∀ p, H p = none → Q (.ref p) (upd H p (.lst zs))) :
    CompTI K k js g tc te σ (.ref a) H Q := by
  refine ⟨a, rfl, ⟨xs, h1⟩, fun i m zs σ H => m = xs.length - i ∧ i ≤ xs.length ∧ Pv i zs σ H, ⟨_, rfl, Nat.zero_le _, h0⟩, ?_⟩
  rintro i m zs σ H ⟨rfl, hi, p⟩
  obtain ⟨k1, k2⟩ := hl i zs σ H hi p
  by_cases hlt : i < xs.length
  · refine .inr ⟨⟨xs, _, k1, List.getElem?_eq_getElem hlt⟩, k2, Pv (i + 1), fun zs' σ' H' p' => ⟨xs.length - (i + 1), by omega, rfl, hlt, p'⟩, fun v H' yy => ?_⟩
    obtain ⟨rfl, ex⟩ := yy
    exact hs i v zs σ _ (ex xs k1) p
  · have e : i = xs.length := by omega
    exact .inl ⟨⟨xs, k1, by omega⟩, hz zs σ H (e ▸ p)⟩
end L2
namespace L2
open PySem PySem.Spec PyProof.Rows
section
variable {X : Cx}
def rJoinD (K : PySem.W.Frag) : V → List V → Hp → VK → Prop := fun x xs H Q => ∃ (z : Str) (l : Addr) (ys : List Str), x = .str z ∧ z.length = 0 ∧ xs = [.ref l] ∧ SqL K H l (ys.map V.str) ∧ ys.length ≤ 100 ∧ (∀ y ∈ ys, okS 10 y) ∧ (okS 1000 (Builtin.Str.glued z ys) → Q (.str (Builtin.Str.glued z ys)) H)
theorem mt_joinD : MtR X "str.join" (rJoinD X.K) := by
  intro pins s σ H x xs v us Q I rx rv h
  obtain ⟨z, l, ys, rfl, hz, rfl, hq, hl, hy, q⟩ := h
  obtain ⟨t, rfl⟩ := rx
  obtain ⟨u, rfl, ru⟩ := vals1 rv
  cases (show u = Value.ref l from ru)
  obtain ⟨its, r, pl, hs⟩ := I.list hq
  have s20 : 20000 ≤ sizeLine := by rw [sizeLine_eq]; decide
  obtain ⟨ps, e1, e2⟩ : ∃ ps : List (Str × Tok), its = strValues ps ∧ ps.map (·.1) = ys := by
    clear hq pl hs hl hy q
    induction ys generalizing its with
    | nil => cases r; exact ⟨[], rfl, rfl⟩
    | cons y r2 ih =>
      cases r with
      | cons a b =>
        obtain ⟨ty, rfl⟩ := a
        obtain ⟨ps, e1, e2⟩ := ih _ b
        exact ⟨(y, ty) :: ps, by rw [e1]; rfl, by rw [List.map_cons, e2]⟩
  subst e1 e2
  have tot : ∀ (ks : List Str) (n : Nat), (∀ y ∈ ks, okS 10 y) → ks.foldl (fun (n : Nat) (y : Str) => n + y.length + z.length) n ≤ n + 10 * ks.length := by
    intro ks
    induction ks with
    | nil => intro n _; simp
    | cons y r ih =>
      intro n h
      have := ih (n + y.length + z.length) fun w hw => h w (List.mem_cons_of_mem _ hw)
      have oy := (h y (List.mem_cons_self ..)).1
      simp only [List.foldl_cons, List.length_cons]
      omega
  have tl : Builtin.Str.tooLong ((ps.map (·.1)).toArray.foldl (fun (n : Nat) (y : Str) => n + y.length + z.length) 0) = false := by
    have := tot (ps.map (·.1)) 0 hy
    simp only [Builtin.Str.tooLong, List.size_toArray, List.foldl_toArray', decide_eq_false_iff_not]
    omega
  refine call_meets F.slot_str_join (typeIs_str s z t) F.entry_str_join (F.args_str_join_2 _ _) (meets_str_join_list z t l ps tl) ⟨pl.isList, ?_⟩
  have og := ok_glued z hz (ps.map (·.1)) hl hy
  match ps, hy, og, q with
  | [p], hy, _, q => exact ⟨.str p.1, H, I, ⟨_, rfl⟩, q ((hy p.1 (by simp)).mono (by decide))⟩
  | [], _, og, q => exact ⟨by have := og.1; omega, .str _, H, I.tok _, ⟨_, rfl⟩, q og⟩
  | a :: b :: r, _, og, q => exact ⟨by have := og.1; omega, .str _, H, I.tok _, ⟨_, rfl⟩, q og⟩
theorem pg_tupK {es : List Expr} {k : Nat} {pos : Pos} {t : TGs} {n : Nat} {K : PySem.W.Frag} (hK : X.K = K) (h : PG X (.Tuple es k pos) (gTup X.K n t)) : PG X (.Tuple es k pos) (gTup K n t) := hK ▸ h
theorem call_isiV : CallR X (.builtin "isinstance") (fun xs H Q => ∃ x n t, xs = [x, .ty n] ∧ n ∈ ["int", "bool", "tuple", "list", "str"] ∧ (tyS x = some t ∨ ∃ a ys, x = .ref a ∧ H a = some (.tup ys) ∧ t = "tuple") ∧ Q (.bl (isiN t n)) H) := by
  intro pins s σ H xs us Q I r h
  obtain ⟨x, n, t, rfl, hn, hx, q⟩ := h
  rcases hx with hx | ⟨a, ys, rfl, ha, rfl⟩
  · refine call_isiS pins s σ H _ us Q I r ⟨x, n, rfl, ⟨hn, by rw [hx]; rfl⟩, ?_⟩
    unfold isiB
    rw [hx]
    exact q
  · refine call_isi pins s σ H _ us Q I r ⟨.ref a, n, .type "tuple", isiN "tuple" n, rfl, .tup ha, ?_, q⟩
    simp only [List.mem_cons, List.not_mem_nil, or_false] at hn
    rcases hn with rfl | rfl | rfl | rfl | rfl <;> exact kit_type (by decide +kernel)
end
theorem cap3 {X : Cx} {scope : Scope} {cl : List (Str × Addr)} {x0 x1 x2 : Str} {j0 j1 j2 : Nat} (c0 : Cap X scope cl x0 j0) (c1 : Cap X scope cl x1 j1) (c2 : Cap X scope cl x2 j2) : ∀ (i : Nat) x j, [x0, x1, x2][i]? = some x → [j0, j1, j2][i]? = some j → Cap X scope cl x j
  | 0, _, _, h1, h2 => by cases h1; cases h2; exact c0
  | 1, _, _, h1, h2 => by cases h1; cases h2; exact c1
  | 2, _, _, h1, h2 => by cases h1; cases h2; exact c2
  | _ + 3, _, _, h1, _ => by cases h1
theorem cl_sub3 {cells : List (Str × Addr)} {y z u : Str} {a b d : Addr} (h : cells.lookup y = some a) (h2 : cells.lookup z = some b) (h3 : cells.lookup u = some d) : ∀ x c, [(y, a), (z, b), (u, d)].lookup x = some c → cells.lookup x = some c := fun x c e => by
  rcases List.mem_cons.mp (PySem.mem_of_lookup e) with q | q
  · cases q; exact h
  · rcases List.mem_cons.mp q with q | q
    · cases q; exact h2
    · cases List.mem_singleton.mp q; exact h3
end L2
namespace L2
open PySem PySem.Spec PyProof.Rows
structure FunD (K : PySem.W.Frag) (x qual : Str) (st : Stmt) (dV : Addr) (its : Array Value) (f : Addr) (fd : FuncData) : Prop where
  ex : ∃ (oc : Value) (od : Option Addr) (kV doc pm : Value) (an : Option Addr) (cdv ct : Value) (osl : Array (Option Value)),
    fd = PySem.W.fnOf x qual (defArgs st) (defBody st) (defScope st) (.ref dV) kV doc pm an cdv ct ∧ K.lookup f = some ⟨oc, od, .func fd, osl⟩ ∧ PySem.W.codeIn K cdv qual = true
  kp : PySem.W.keepIn K (.ref f) = true
  dt : ∃ (o : Obj) (n : Nat), K.lookup dV = some o ∧ o.data = .seq its n
section
variable {P : Program} {w : World} {K : PySem.W.Frag} {mg : Str → Option Value} {base : Heap}
theorem FunD.ok {x qual : Str} {st : Stmt} {dV : Addr} {its : Array Value} {f : Addr} {fd : FuncData} {N ps : List Str} {k : Nat} {sp : Sp} (F : FunD K x qual st dV its f fd) (S : FnScope N ps (defScope st)) (len : ∀ vs H Q E, sp vs H Q E → vs.length = ps.length)
    (hbody : ∀ (cdv : Value) (A : Around) (outer : List Env) (s : Shared) (H : Hp) (vs : List V) (Q : VK) (E : XK), Room k (A.deeper (envOfC qual (defScope st) s.heap.objs.size f cdv)) → sp vs H Q E →
      ∃ t, PSs (cxOf CX0 P w K mg base N qual (defScope st) f cdv A outer s H E).nox (defBody st) t ∧ t { nx := fun _ H' => Q .non H', rt := Q } (start N vs) H) : FnOk P w K mg base CX0 (k + 1) f fd ps sp := by
  obtain ⟨oc, od, kV, doc, pm, an, cdv, ct, osl, rfl, lk, hcd⟩ := F.ex
  refine fn_of lk hcd S len fun A outer s H vs Q E hr hsp => ?_
  obtain ⟨t, h, q⟩ := hbody cdv A outer s H vs Q E hr hsp
  exact ⟨t, h.nox, q⟩
theorem FunD.binds {x qual : Str} {st : Stmt} {dV : Addr} {its : Array Value} {f : Addr} {fd : FuncData} {ps : List Str} {ds : List Value} (F : FunD K x qual st dV its f fd)
    (h : ∀ (kV doc pm : Value) (an : Option Addr) (cdv ct : Value) (us : List Value), (us ++ ds).length = ps.length → ∃ k, bindArgs (PySem.W.fnOf x qual (defArgs st) (defBody st) (defScope st) (.ref dV) kV doc pm an cdv ct) ⟨us, []⟩ = seqItems? (.ref dV) >>= k ∧ k (some its) = pure (ps.zip (us ++ ds))) : Binds K fd ps ds := by
  obtain ⟨oc, od, kV, doc, pm, an, cdv, ct, osl, rfl, lk, hcd⟩ := F.ex
  obtain ⟨o, n, ho, hs⟩ := F.dt
  intro s us KI hl
  obtain ⟨k, h1, h2⟩ := h kV doc pm an cdv ct us hl
  exact .of_defaults (T := dV) rfl (KI dV o ho) hs h1 h2
theorem fund_mk {x qual : Str} {st : Stmt} {dV : Addr} {its : Array Value} {f : Addr} {oc : Value} {od an : Option Addr} {osl : Array (Option Value)} {kV doc pm cdv ct : Value} {o : Obj} {n : Nat} (l : K.lookup f = some ⟨oc, od, .func (PySem.W.fnOf x qual (defArgs st) (defBody st) (defScope st) (.ref dV) kV doc pm an cdv ct), osl⟩)
    (c : PySem.W.codeIn K cdv qual = true) (k : PySem.W.keepIn K (.ref f) = true) (d : K.lookup dV = some o) (ds : o.data = .seq its n) : FunD K x qual st dV its f (PySem.W.fnOf x qual (defArgs st) (defBody st) (defScope st) (.ref dV) kV doc pm an cdv ct) := ⟨⟨oc, od, kV, doc, pm, an, cdv, ct, osl, rfl, l, c⟩, k, ⟨o, n, d, ds⟩⟩
end
structure CalleeD (P : Program) (w : World) (K : PySem.W.Frag) (mg : Str → Option Value) (base : Heap) (CX : CXT) (k : Nat) (x : Str) (ps : List Str) (dvs : List V) (sp : Sp) : Prop where
  has : ∃ (f : Addr) (fd : FuncData) (ds : List Value), FnOk P w K mg base CX k f fd ps sp ∧ mg x = some (.ref f) ∧ PySem.W.keepIn K (.ref f) = true ∧ Binds K fd ps ds ∧ Vals dvs ds
theorem CalleeD.mono {P : Program} {w : World} {K : PySem.W.Frag} {mg : Str → Option Value} {base : Heap} {CX : CXT} {j k : Nat} {x : Str} {ps : List Str} {dvs : List V} {sp : Sp} (c : CalleeD P w K mg base CX j x ps dvs sp) (h : j ≤ k) : CalleeD P w K mg base CX k x ps dvs sp :=
  let ⟨f, fd, ds, ok, m, kp, b, v⟩ := c.has; ⟨⟨f, fd, ds, ok.mono h, m, kp, b, v⟩⟩
section
variable {X : Cx} {CX : CXT} {k : Nat} {ps : List Str} {dvs : List V} {sp : Sp} {E : XK} {x : Str} {p pos : Pos} {e : Expr} {es : List Expr} {t : TA}
end
def totS (z : Str) (ys : List Str) : Nat := ys.foldl (fun (n : Nat) (y : Str) => n + y.length + z.length) 0
theorem tot_from (z : Str) : ∀ (ys : List Str) (n : Nat), ys.foldl (fun (n : Nat) (y : Str) => n + y.length + z.length) n = n + totS z ys := by
  intro ys
  unfold totS
  induction ys with
  | nil => intro n; rfl
  | cons y r ih => intro n; rw [List.foldl_cons, List.foldl_cons, ih, ih (0 + y.length + z.length)]; omega
theorem tot_cons (z y : Str) (ys : List Str) : totS z (y :: ys) = y.length + z.length + totS z ys := by
  show ys.foldl _ (0 + y.length + z.length) = _
  rw [tot_from]; omega
theorem tot_app (z : Str) : ∀ (xs ys : List Str), totS z (xs ++ ys) = totS z xs + totS z ys
  | [], ys => by show _ = 0 + _; simp
  | x :: xs, ys => by rw [List.cons_append, tot_cons, tot_cons, tot_app z xs ys]; omega
theorem tot_le {z : Str} {k : Nat} : ∀ {ys : List Str}, (∀ y ∈ ys, y.length ≤ k) → totS z ys ≤ (k + z.length) * ys.length
  | [], _ => Nat.zero_le _
  | y :: ys, h => by
    have := tot_le (z := z) (ys := ys) fun x hx => h x (List.mem_cons_of_mem _ hx)
    have h1 := h y (List.mem_cons_self ..)
    rw [tot_cons, List.length_cons, Nat.mul_succ]; omega
theorem glued_len (z : Str) (ys : List Str) : (Builtin.Str.glued z ys).length ≤ totS z ys := by
  cases ys with
  | nil => exact Nat.zero_le _
  | cons y r =>
    have all : ∀ (r : List Str) (a : Array Nat), (r.foldl (fun acc p => acc ++ z.cps ++ p.cps) a).size = a.size + totS z r := by
      intro r
      induction r with
      | nil => intro a; rfl
      | cons p r ih =>
        intro a
        rw [List.foldl_cons, ih, tot_cons]
        have e1 : p.length = p.cps.size := rfl
        have e2 : z.length = z.cps.size := rfl
        simp only [Array.size_append]; omega
    show (r.foldl (fun acc p => acc ++ z.cps ++ p.cps) y.cps).size ≤ _
    rw [all, tot_cons]
    have e1 : y.length = y.cps.size := rfl
    omega
section
variable {X : Cx}
def rJoinW (K : PySem.W.Frag) : V → List V → Hp → VK → Prop := fun x xs H Q => ∃ (z : Str) (l : Addr) (ys : List Str), x = .str z ∧ xs = [.ref l] ∧ SqL K H l (ys.map V.str) ∧ totS z ys ≤ 1000000 ∧ Q (.str (Builtin.Str.glued z ys)) H
theorem mt_joinW : MtR X "str.join" (rJoinW X.K) := by
  intro pins s σ H x xs v us Q I rx rv h
  obtain ⟨z, l, ys, rfl, rfl, hq, hl, q⟩ := h
  obtain ⟨t, rfl⟩ := rx
  obtain ⟨u, rfl, ru⟩ := vals1 rv
  cases (show u = Value.ref l from ru)
  obtain ⟨its, r, pl, hs⟩ := I.list hq
  have s20 : 1000000 ≤ sizeLine := by rw [sizeLine_eq]; decide
  obtain ⟨ps, e1, e2⟩ : ∃ ps : List (Str × Tok), its = strValues ps ∧ ps.map (·.1) = ys := by
    clear hq pl hs hl q
    induction ys generalizing its with
    | nil => cases r; exact ⟨[], rfl, rfl⟩
    | cons y r2 ih =>
      cases r with
      | cons a b =>
        obtain ⟨ty, rfl⟩ := a
        obtain ⟨ps, e1, e2⟩ := ih _ b
        exact ⟨(y, ty) :: ps, by rw [e1]; rfl, by rw [List.map_cons, e2]⟩
  subst e1 e2
  have tl : Builtin.Str.tooLong ((ps.map (·.1)).toArray.foldl (fun (n : Nat) (y : Str) => n + y.length + z.length) 0) = false := by
    have : totS z (ps.map (·.1)) ≤ 1000000 := hl
    unfold totS at this
    simp only [Builtin.Str.tooLong, List.size_toArray, List.foldl_toArray', decide_eq_false_iff_not]
    omega
  refine call_meets F.slot_str_join (typeIs_str s z t) F.entry_str_join (F.args_str_join_2 _ _) (meets_str_join_list z t l ps tl) ⟨pl.isList, ?_⟩
  have og := Nat.le_trans (glued_len z (ps.map (·.1))) hl
  match ps, og, q with
  | [p], _, q => exact ⟨.str p.1, H, I, ⟨_, rfl⟩, q⟩
  | [], og, q => exact ⟨Nat.le_trans og s20, .str _, H, I.tok _, ⟨_, rfl⟩, q⟩
  | a :: b :: r, og, q => exact ⟨Nat.le_trans og s20, .str _, H, I.tok _, ⟨_, rfl⟩, q⟩
def rMulS : R2 := fun x y H Q => ∃ a n, x = .str a ∧ y = .int n ∧ 0 ≤ n ∧ n ≤ 100 ∧ a.length ≤ 10 ∧ ∀ z : Str, z.length = a.length * n.toNat → Q (.str z) H
theorem mr_extend : MtR X "list.extend" rExtend := mt_extend
theorem call_strV : CallR X (.type "str") (fun xs H Q => ∃ x z, xs = [x] ∧ ((∃ i : Int, x = .int i ∧ i.natAbs.log2 < 1920 ∧ z = Str.ofString (toString i)) ∨ x = .str z) ∧ Q (.str z) H) := by
  intro pins s σ H xs us Q I r h
  obtain ⟨x, z, rfl, h, q⟩ := h
  rcases h with ⟨i, rfl, hl, rfl⟩ | rfl
  · exact call_strI pins s σ H _ us Q I r ⟨i, rfl, hl, q⟩
  · obtain ⟨u, rfl, t, rfl⟩ := vals1 r
    exact PySem.P.str_of_str ⟨.str _, H, I, ⟨_, rfl⟩, q⟩
def rIxQ : R2 := fun x y H Q => ∃ p xs i v, x = .ref p ∧ y = .int i ∧ (H p = some (.lst xs) ∨ H p = some (.tup xs)) ∧ atI xs i = some v ∧ Q v H
theorem ix_seqH : IxR X rIxQ := by
  intro value slice pins s σ H x y v u Q I rx ry h hs
  obtain ⟨p, xs, i, z, e1, e2, hh | hh, ha, q⟩ := h
  · exact ix_listH value slice pins s σ H x y v u Q I rx ry ⟨p, xs, i, z, e1, e2, hh, ha, q⟩ hs
  · exact ix_tupH value slice pins s σ H x y v u Q I rx ry ⟨p, xs, i, z, e1, e2, hh, ha, q⟩ hs
end
end L2
namespace L2
open PySem PySem.Spec PyProof.Rows
section
open PySem.Builtin PySem.Builtin.Str
def posL (c : Nat) : List Nat → Nat → List Nat
  | [], _ => []
  | d :: r, a => if d = c then a :: posL c r (a + 1) else posL c r (a + 1)
def splitL (c : Nat) : List Nat → List (List Nat)
  | [] => [[]]
  | d :: r => if d = c then [] :: splitL c r else match splitL c r with
    | [] => [[d]]
    | p :: ps => (d :: p) :: ps
theorem splitL_ne (c : Nat) : ∀ L : List Nat, ∃ p ps, splitL c L = p :: ps
  | [] => ⟨_, _, rfl⟩
  | d :: r => by
    obtain ⟨p, ps, e⟩ := splitL_ne c r
    unfold splitL
    split
    · exact ⟨_, _, rfl⟩
    · rw [e]; exact ⟨_, _, rfl⟩
theorem occ_pos (x : Str) (c : Nat) : ∀ (m i : Nat) (st : Array Nat × Nat), i + m = x.length + 1 → st.2 ≤ i → st.1.size ≤ i →
    (forIn (List.range' i m) st (StrLaws.occBody x ⟨#[c]⟩ x.length (x.length + 1))).run.fst.toList = st.1.toList ++ posL c (x.cps.toList.drop i) i
  | 0, i, st, hi, _, _ => by
    have e : x.cps.toList.drop i = [] := List.drop_eq_nil_of_le (by simp [Str.length] at hi ⊢; omega)
    rw [e]; simp [posL]
  | m + 1, i, st, hi, h1, h2 => by
    rw [List.range'_succ, List.forIn_cons]
    have key := StrLaws.subAt_one x c i
    unfold StrLaws.occBody
    cases e : x.cps.toList[i]? with
    | none =>
      have en : x.cps.toList.drop i = [] := List.drop_eq_nil_of_le (List.getElem?_eq_none_iff.mp e)
      rw [if_neg (fun z => by have := key.mp ⟨z.1.2, z.2⟩; rw [e] at this; cases this)]
      refine (occ_pos x c m (i + 1) _ (by omega) (by show st.2 ≤ i + 1; omega) (by show st.1.size ≤ i + 1; omega)).trans ?_
      rw [en, List.drop_eq_nil_of_le (by have := List.getElem?_eq_none_iff.mp e; omega)]
      simp [posL]
    | some d =>
      have hl := (List.getElem?_eq_some_iff.mp e).1
      have ed : x.cps.toList.drop i = d :: x.cps.toList.drop (i + 1) := by
        rw [List.drop_eq_getElem_cons hl]; congr 1; exact (List.getElem?_eq_some_iff.mp e).2
      by_cases z : d = c
      · subst z
        obtain ⟨k1, k2⟩ := key.mpr e
        rw [if_pos ⟨⟨⟨by omega, h1⟩, k1⟩, k2⟩]
        refine (occ_pos x d m (i + 1) (st.1.push i, i + 1) (by omega) (Nat.le_refl _) (by show (st.1.push i).size ≤ i + 1; simp; omega)).trans ?_
        rw [ed, posL, if_pos rfl, Array.toList_push, List.append_assoc]; rfl
      · rw [if_neg (fun y => by have := key.mp ⟨y.1.2, y.2⟩; rw [e] at this; exact z (Option.some.inj this))]
        refine (occ_pos x c m (i + 1) _ (by omega) (by show st.2 ≤ i + 1; omega) (by show st.1.size ≤ i + 1; omega)).trans ?_
        rw [ed, posL, if_neg z]
theorem occ_all (x : Str) (c : Nat) : occurrences x ⟨#[c]⟩ 0 x.length (x.length + 1) = posL c x.cps.toList 0 := by
  rw [StrLaws.occ_eq]
  have := occ_pos x c (x.length + 1) 0 (#[], 0) (by omega) (Nat.le_refl _) (Nat.le_refl _)
  rw [Nat.sub_zero, this]
  simp
def strL (L : List Nat) : Str := ⟨L.toArray⟩
theorem strL_of {x : Str} {L : List Nat} (h : x.cps.toList = L) : x = strL L := by
  obtain ⟨a⟩ := x
  unfold strL
  congr 1
  exact Array.ext' h
theorem parts_pos (x : Str) (c : Nat) : ∀ (r : List Nat) (a b : Nat), x.cps.toList.drop b = r → a ≤ b → b ≤ x.length → ∀ p ps, splitL c r = p :: ps →
    StrLaws.partsFrom x 1 a (posL c r b) = strL ((x.cps.toList.drop a).take (b - a) ++ p) :: ps.map strL
  | [], a, b, e, hab, hb, p, ps, es => by
    have hn : x.cps.toList.length = x.length := by simp [Str.length]
    have : b = x.length := by have := congrArg List.length e; simp only [List.length_drop, List.length_nil] at this; omega
    subst this
    cases es
    show [strSub x a x.length] = _
    rw [strL_of (StrLaws.strSub_toList x a x.length), List.append_nil]
    rfl
  | d :: r, a, b, e, hab, hb, p, ps, es => by
    have hn : x.cps.toList.length = x.length := by simp [Str.length]
    have hl : b < x.length := by have := congrArg List.length e; simp only [List.length_drop, List.length_cons] at this; omega
    have e2 : x.cps.toList.drop (b + 1) = r := by rw [← List.drop_drop, e]; rfl
    have eb : x.cps.toList[b]? = some d := by rw [show x.cps.toList[b]? = (x.cps.toList.drop b)[0]? by rw [List.getElem?_drop]; rfl, e]; rfl
    obtain ⟨p', ps', es'⟩ := splitL_ne c r
    unfold posL
    unfold splitL at es
    by_cases z : d = c
    · rw [if_pos z] at es ⊢
      cases es
      show strSub x a b :: StrLaws.partsFrom x 1 (b + 1) (posL c r (b + 1)) = _
      rw [parts_pos x c r (b + 1) (b + 1) e2 (Nat.le_refl _) hl p' ps' es', es', strL_of (StrLaws.strSub_toList x a b), List.append_nil, Nat.sub_self]
      rfl
    · rw [if_neg z] at es ⊢
      rw [es'] at es
      cases es
      rw [parts_pos x c r a (b + 1) e2 (by omega) hl _ _ es']
      congr 2
      rw [show b + 1 - a = (b - a) + 1 by omega, List.take_add_one, List.getElem?_drop, show a + (b - a) = b by omega, eb]
      simp
theorem kind_pos (x : Str) : ¬ Builtin.Str.strKind x < 1 := by unfold Builtin.Str.strKind; split <;> (try split) <;> omega
def glueL (c : Nat) : List (List Nat) → List Nat
  | [] => []
  | [w] => w
  | w :: v :: r => w ++ c :: glueL c (v :: r)
theorem split_app (c : Nat) : ∀ (w r : List Nat), c ∉ w → splitL c (w ++ c :: r) = w :: splitL c r
  | [], r, _ => by show splitL c (c :: r) = _; rw [splitL, if_pos rfl]
  | d :: w, r, h => by
    show splitL c (d :: (w ++ c :: r)) = _
    rw [splitL, if_neg (fun z => h (by rw [z]; exact List.mem_cons_self ..)), split_app c w r (fun z => h (List.mem_cons_of_mem _ z))]
theorem split_one (c : Nat) : ∀ (w : List Nat), c ∉ w → splitL c w = [w]
  | [], _ => rfl
  | d :: w, h => by rw [splitL, if_neg (fun z => h (by rw [z]; exact List.mem_cons_self ..)), split_one c w (fun z => h (List.mem_cons_of_mem _ z))]
theorem split_glue (c : Nat) : ∀ (ws : List (List Nat)), ws ≠ [] → (∀ w ∈ ws, c ∉ w) → splitL c (glueL c ws) = ws
  | [], h, _ => absurd rfl h
  | [w], _, h => split_one c w (h w (List.mem_cons_self ..))
  | w :: v :: r, _, h => by
    rw [glueL, split_app c w _ (h w (List.mem_cons_self ..)), split_glue c (v :: r) (by simp) (fun y hy => h y (List.mem_cons_of_mem _ hy))]
theorem pos_nil (c : Nat) : ∀ (L : List Nat) (a : Nat), posL c L a = [] → c ∉ L
  | [], _, _ => by simp
  | d :: r, a, h => by
    unfold posL at h
    split at h
    · cases h
    · rename_i z
      intro m
      rcases List.mem_cons.mp m with e | m
      · exact z e.symm
      · exact pos_nil c r _ h m
theorem kind_one {c : Nat} (h : c < 256) : Builtin.Str.strKind ⟨#[c]⟩ = 1 := by unfold Builtin.Str.strKind; rw [if_pos (by simpa using h)]
theorem split_is (x : Str) {c : Nat} (h : c < 256) : Txt.split x ⟨#[c]⟩ = (splitL c x.cps.toList).map strL := by
  have hn : x.cps.toList.length = x.length := by simp [Str.length]
  have x1 : x = strL x.cps.toList := strL_of rfl
  unfold Txt.split
  split
  · rename_i e
    rw [kind_one h, decide_eq_false (kind_pos x), Bool.or_false, decide_eq_true_eq] at e
    have e : x.length < 1 := e
    have z : x.cps.toList = [] := List.eq_nil_of_length_eq_zero (by omega)
    rw [z] at x1 ⊢
    rw [x1]; rfl
  · split
    · rename_i e
      rw [occ_all, List.isEmpty_iff] at e
      rw [split_one c _ (pos_nil c _ _ e), List.map_cons, List.map_nil, ← x1]
    · obtain ⟨p, ps, es⟩ := splitL_ne c x.cps.toList
      rw [StrLaws.partsBetween_eq, occ_all]
      refine (parts_pos x c x.cps.toList 0 0 rfl (Nat.le_refl _) (Nat.zero_le _) p ps es).trans ?_
      rw [es]; rfl
theorem glue_join (c : Nat) : ∀ (ws : List Str), (Str.join ⟨#[c]⟩ ws).cps.toList = glueL c (ws.map fun w => w.cps.toList)
  | [] => rfl
  | [w] => rfl
  | w :: v :: r => by
    have ih := glue_join c (v :: r)
    show ((w ++ ⟨#[c]⟩) ++ Str.join ⟨#[c]⟩ (v :: r)).cps.toList = _
    rw [Str.cps_append, Str.cps_append, Array.toList_append, Array.toList_append, ih]
    simp [glueL]
theorem split_glued {c : Nat} {ws : List Str} (n : ws ≠ []) (h : ∀ w ∈ ws, c ∉ w.cps.toList) : (splitL c (glued ⟨#[c]⟩ ws).cps.toList).map (fun w => V.str (strL w)) = ws.map V.str := by
  rw [StrLaws.glued_eq_join, glue_join, split_glue c _ (by simpa using n) (fun w hw => by obtain ⟨v, hv, rfl⟩ := List.mem_map.mp hw; exact h v hv), List.map_map]
  exact List.map_congr_left fun w _ => congrArg V.str (strL_of rfl).symm
theorem splitL_len (c : Nat) : ∀ L : List Nat, (splitL c L).length ≤ L.length + 1
  | [] => by simp [splitL]
  | d :: r => by
    have ih := splitL_len c r
    obtain ⟨p, ps, e⟩ := splitL_ne c r
    unfold splitL
    rw [e] at ih ⊢
    split <;> simp at ih ⊢ <;> omega
theorem glue_mem (c a : Nat) : ∀ (ws : List (List Nat)), a ∈ glueL c ws → a = c ∨ ∃ w ∈ ws, a ∈ w
  | [], h => by simp [glueL] at h
  | [w], h => .inr ⟨w, List.mem_cons_self .., h⟩
  | w :: v :: r, h => by
    rcases List.mem_append.mp h with h | h
    · exact .inr ⟨w, List.mem_cons_self .., h⟩
    · rcases List.mem_cons.mp h with h | h
      · exact .inl h
      · rcases glue_mem c a (v :: r) h with h | ⟨y, hy, h⟩
        · exact .inl h
        · exact .inr ⟨y, List.mem_cons_of_mem _ hy, h⟩
theorem glued_mem {c a : Nat} {ws : List Str} (h : a ∈ (glued ⟨#[c]⟩ ws).cps.toList) : a = c ∨ ∃ w ∈ ws, a ∈ w.cps.toList := by
  rw [StrLaws.glued_eq_join, glue_join] at h
  rcases glue_mem c a _ h with h | ⟨y, hy, h⟩
  · exact .inl h
  · obtain ⟨w, hw, rfl⟩ := List.mem_map.mp hy
    exact .inr ⟨w, hw, h⟩
theorem split_strs : ∀ (ps : List (Str × Tok)), Vals (ps.map fun p => V.str p.1) (strValues ps)
  | [] => .nil
  | p :: r => .cons ⟨_, rfl⟩ (split_strs r)
section
variable {X : Cx}
def rSplit : V → List V → Hp → VK → Prop := fun x ys H Q => ∃ (t : Str) (c : Nat), x = .str t ∧ ys = [.str ⟨#[c]⟩] ∧ c < 256 ∧ t.length ≤ 1000000 ∧ ∀ l, H l = none → Q (.ref l) (upd H l (.lst ((splitL c t.cps.toList).map fun w => V.str (strL w))))
theorem mt_split : MtR X "str.split" rSplit := by
  intro pins s σ H x xs v us Q I rx rv h
  obtain ⟨x, c, rfl, rfl, c2, hl, q⟩ := h
  obtain ⟨t, rfl⟩ := rx
  obtain ⟨u, rfl, ru⟩ := vals1 rv
  obtain ⟨u, rfl⟩ := ru
  have s20 : 1000010 ≤ sizeLine := by rw [sizeLine_eq]; decide
  have hy : ((⟨#[c]⟩ : Str).length == 0) = false := rfl
  have fin : ∀ (l : List (Str × Tok)) (k : Nat), l.map (·.1) = Txt.split x ⟨#[c]⟩ → EP X pins σ Q (.ref s.heap.objs.size) { s with heap := s.heap.push { cls := .type "list", data := .seq (strValues l).toArray }, toks := k } := by
    intro l k e
    rw [split_is x c2] at e
    have r : Vals ((splitL c x.cps.toList).map fun w => V.str (strL w)) (strValues l) := by
      have := split_strs l
      rw [show l.map (fun p => V.str p.1) = (l.map (·.1)).map V.str by rw [List.map_map]; rfl, e, List.map_map] at this
      exact this
    have hz : ((splitL c x.cps.toList).map fun w => V.str (strL w)).length ≤ sizeLine := by
      rw [List.length_map]
      have := splitL_len c x.cps.toList
      have e2 : x.cps.toList.length = x.length := by simp [Str.length]
      omega
    exact ⟨.ref _, _, I.lnew (t' := k) r hz, rfl, q _ I.fresh⟩
  have hn : (partsBetween x (occurrences x ⟨#[c]⟩ 0 x.length (x.length + 1)) (⟨#[c]⟩ : Str).length).length ≤ sizeLine := by
    have e1 := StrLaws.occ_length_le x ⟨#[c]⟩ 0 x.length (x.length + 1)
    rw [length_partsBetween]; omega
  cases h1 : (decide (x.length < (⟨#[c]⟩ : Str).length) || decide (Builtin.Str.strKind x < Builtin.Str.strKind ⟨#[c]⟩))
  · cases hf : (occurrences x ⟨#[c]⟩ 0 x.length (x.length + 1)).isEmpty
    · refine call_meets F.slot_str_split (typeIs_str _ _ _) F.entry_str_split (F.args_str_split_2 _ _) (meets_str_split_sep x ⟨#[c]⟩ t u h1 hy hf (by omega) hn) ?_
      show EP X pins σ Q (.ref s.heap.objs.size) { s with toks := _, heap := s.heap.push { cls := .type "list", data := .seq (strsFrom s.toks (partsBetween x (occurrences x ⟨#[c]⟩ 0 x.length (x.length + 1)) (⟨#[c]⟩ : Str).length)).toArray } }
      rw [strsFrom_eq]
      exact fin (numbered s.toks _) _ ((numbered_texts _ _).trans ((if_neg (ne_true_of_eq_false h1)).trans (if_neg (ne_true_of_eq_false hf))).symm)
    · exact call_meets F.slot_str_split (typeIs_str _ _ _) F.entry_str_split (F.args_str_split_2 _ _) (meets_str_split_not_found x ⟨#[c]⟩ t u h1 hy hf) (fin [(x, t)] s.toks ((if_neg (ne_true_of_eq_false h1)).trans (if_pos hf)).symm)
  · exact call_meets F.slot_str_split (typeIs_str _ _ _) F.entry_str_split (F.args_str_split_2 _ _) (meets_str_split_cannot_occur x ⟨#[c]⟩ t u h1) (fin [(x, t)] s.toks (if_pos h1).symm)
end
end
theorem hu1 {k : Nat} {A : Around} (r : Room k A) : A.units + 1 < cLine := by have := r.un; omega
theorem vals_mem : ∀ {xs : List V} {us : List Value}, Vals xs us → ∀ u ∈ us, ∃ z ∈ xs, RelV z u
  | _, _, .nil, u, h => by cases h
  | x :: xs, v :: us, .cons r t, u, h => by
    rcases List.mem_cons.mp h with rfl | h
    · exact ⟨x, List.mem_cons_self .., r⟩
    · obtain ⟨z, h1, h2⟩ := vals_mem t u h
      exact ⟨z, List.mem_cons_of_mem _ h1, h2⟩
section
variable {X : Cx}
def rInN : R2 := fun x y H Q => ∃ p xs, x = .non ∧ y = .ref p ∧ H p = some (.lst xs) ∧ (∀ z ∈ xs, flatV z = true ∨ ∃ a ys, z = .ref a ∧ H a = some (.tup ys)) ∧ Q (.bl (xs.any fun z => eqV z .non)) H
theorem eqU_non {z : V} {u : Value} (r : RelV z u) (f : flatV z = true ∨ ∃ a, z = .ref a) : eqU .non u = eqV z .non := by
  rcases f with f | ⟨a, rfl⟩
  · exact eqU_of r f
  · cases r; rfl
theorem any_eqN : ∀ {xs : List V} {us : List Value}, Vals xs us → (∀ z ∈ xs, flatV z = true ∨ ∃ a, z = .ref a) → us.any (eqU .non) = xs.any fun y => eqV y .non
  | _, _, .nil, _ => rfl
  | y :: xs, u :: us, .cons r t, f => by rw [List.any_cons, List.any_cons, any_eqN t fun z hz => f z (List.mem_cons_of_mem _ hz), eqU_non r (f y (List.mem_cons_self ..))]
theorem op_inN (hu : X.A.units + 1 < cLine) : OpR X (compareOp .In) rInN := by
  intro pins s σ H x y v u Q I rx ry h
  obtain ⟨p, xs, rfl, rfl, hq, hf, q⟩ := h
  cases ry
  cases rx
  obtain ⟨its, r, pl, hz⟩ := I.list (.of hq)
  refine SeqAt.in_listAt (eqU .non) pl.isList (fun w hw => ?_) ⟨.bl _, H, I, rfl, ?_⟩
  · obtain ⟨z, mz, rz⟩ := vals_mem r w (by simpa using hw)
    rcases hf z mz with f | ⟨a, ys, rfl, ha⟩
    · rw [eqU_of rz f]; exact eqAt_V rz rfl f rfl
    · cases rz
      obtain ⟨its2, r2, pl2, hz2⟩ := I.tuple (.of ha)
      exact SeqAt.EqAt.tuple_none pl2 hu
  · rw [show its.toArray.any (eqU .non) = its.any (eqU .non) by simp, any_eqN r fun z hz => (hf z hz).imp id fun ⟨a, _, e, _⟩ => ⟨a, e⟩]
    exact q
end
section
variable {pg : Program} {wd : World} {B : Around} {X0 : Value → Shared → Prop} {s0 : Shared} {J d : Addr} {m : Nat} {Pr : Nat → Value → Prop} {OK : Heap → Prop}
theorem new_tuple_dict {R : Value → Shared → Prop} (K : PySem.W.KdlSrc pg wd "dict" J d m Pr OK) (hh : B.handled = none) (ok : OK s0.heap) (sm : m ≤ sizeLine)
    (fin : ∀ (h' : Heap) (tk : Nat) (ac : Array Value), (∀ b o, s0.heap.get? b = some o → h'.get? b = some o) → ItemsOf Pr ac m → R (.ref h'.objs.size) { s0 with heap := h'.push { cls := .type "tuple", data := .seq ac }, toks := tk }) :
    codeAny (model pg wd) B (.call (.builtin "tuple.__new__") ⟨[.type "tuple", .ref J], []⟩) (wants R X0) s0 := by
  refine codeAny_of_tree ?_
  show wpAny _ B.in1 (do checkBuiltinCall "tuple.__new__" ⟨[.type "tuple", .ref J], []⟩; again (.builtin "tuple.__new__" ⟨[.type "tuple", .ref J], []⟩)) _ _ s0
  refine wpAny_bind (wpAny_of_eq (F.newCall_tuple_1 _) (wpAny_pure ⟨plainId_quiet F.plain_tuple_new _, codeAny_builtin F.entry_tuple_new ?_⟩))
  rw [Around.under_plainId F.plain_tuple_new _]
  have q1 := sub_tuple_self
  have q2 := init_tuple_lookup
  have q3 := madeHere_tuple
  have q4 := K.type s0 ok
  have hh1 : B.in1.handled = none := hh
  wp_walk using wpAny_typeOf q4, PySem.W.kdu_collect (A := B.in1) K hh1 ok sm
  intro h' tk ac hk its
  show wpAny _ _ (Builtin.Tuple.tupleExact ac.toList.toArray >>= fun q => ret q) _ _ _
  have e : ac.toList.toArray = ac := by simp
  rw [e]
  unfold Builtin.Tuple.tupleExact
  exact wpAny_bind (wpAny_newObj_type (wpAny_pure (fin h' tk ac hk its)) (by show ac.size ≤ sizeLine; rw [its.1]; exact sm))
theorem call_tuple_dict {R : Value → Shared → Prop} (K : PySem.W.KdlSrc pg wd "dict" J d m Pr OK) (hh : B.handled = none) (ok : OK s0.heap) (sm : m ≤ sizeLine)
    (fin : ∀ (h' : Heap) (tk : Nat) (ac : Array Value), (∀ b o, s0.heap.get? b = some o → h'.get? b = some o) → ItemsOf Pr ac m → R (.ref h'.objs.size) { s0 with heap := h'.push { cls := .type "tuple", data := .seq ac }, toks := tk }) :
    wpAny (model pg wd) B (call (.type "tuple") [.ref J]) R X0 s0 :=
  callType_codes (Q₁ := fun ob z => z.TypeIs ob "tuple" ∧ R ob z) F.called_tuple (F.typeCall_tuple_1 _) F.entry_object_init
    (new_tuple_dict (B := B.in1) K hh ok sm fun h' tk ac hk its => ⟨⟨_, Heap.get?_push_size _ rfl, rfl⟩, fin h' tk ac hk its⟩)
    fun ob z q => ⟨q.1, F.args_object_init_2 ob _, object_init_meets F.called_tuple.init.lookup F.called_tuple.made (by decide) pg wd B.in1 _ z ⟨q.1, rfl, q.2⟩⟩
end
theorem key_rel {P : Program} {w : World} {k : Key} {v : Value} (h : (mixKind P w).is k v = true) : RelV (kV k) v := by
  rcases keyIs_shape h with ⟨i, t, rfl, rfl⟩ | ⟨x, t, rfl, rfl⟩ <;> exact ⟨t, rfl⟩
theorem keys_vals {P : Program} {w : World} {kvs : List (Key × V)} {vs : List (Key × Value)} {ac : Array Value} (r : KV kvs vs) (it : ItemsOf (fun i v => ∃ k x, vs[i]? = some (k, x) ∧ (mixKind P w).is k v = true) ac vs.length) : Vals (kvs.map fun kv => kV kv.1) ac.toList := by
  refine vals_of_get (by rw [List.length_map, r.length, ← it.1]; exact Array.length_toList.symm) fun i u e => ?_
  rw [Array.getElem?_toList] at e
  obtain ⟨k, x, e1, e2⟩ := it.2 i u e
  refine ⟨kV k, ?_, key_rel e2⟩
  have z := congrArg (fun l : List Key => l[i]?) r.keys
  simp only [List.getElem?_map, e1, Option.map_some] at z
  rw [List.getElem?_map]
  cases g : kvs[i]? with
  | none => rw [g] at z; cases z
  | some kv => rw [g] at z; simp only [Option.map_some, Option.some.injEq] at z ⊢; rw [z]
section
variable {X : Cx}
theorem call_tupleD (hc : X.calm = true) : CallR X (.type "tuple") (fun xs H Q => ∃ p kvs, xs = [.ref p] ∧ H p = some (.dK kvs) ∧ ∀ l, H l = none → Q (.ref l) (upd H l (.tup (kvs.map fun kv => kV kv.1)))) := by
  intro pins s σ H xs us Q I r h
  obtain ⟨p, kvs, rfl, hp, q⟩ := h
  obtain ⟨u, rfl, rx⟩ := vals1 r
  cases rx
  obtain ⟨z, hd, vs, rel, dd⟩ := dk_of I.hok hp
  obtain ⟨ep, da⟩ := dd.dictAt
  refine call_tuple_dict (PySem.W.kdl_dict (knd := mixKind X.prog X.w) (kvs := vs) (ep := ep) hd) (I.ok.hd hc) da (by rw [← rel.length]; exact z) fun h' tk ac hk it => ?_
  have I1 : Inv X pins σ H { s with heap := h', toks := tk } := I.kept (t' := tk) hk
  have hv := keys_vals rel it
  have hl : (kvs.map fun kv => kV kv.1).length ≤ sizeLine := by rw [List.length_map]; exact z
  refine ⟨.ref h'.objs.size, _, I1.laid (t' := tk) (o := .tup (kvs.map fun kv => kV kv.1)) (fun b ob e => Heap.get?_push_of_some _ e) (Nat.le_refl _) ⟨hl, ac.toList, hv, ?_⟩, rfl, q _ (I1.hok.fresh (Nat.le_refl _))⟩
  rw [Array.toArray_toList]
  exact IsTup.new _ _
def rMulC : R2 := fun x y H Q => ∃ a n, x = .str (strL a) ∧ y = .int n ∧ 0 ≤ n ∧ n ≤ 100 ∧ a.length ≤ 10 ∧ Q (.str (strL (List.replicate n.toNat a).flatten)) H
theorem rep_flat (c : List Nat) : ∀ (n : Nat) (a : List Nat), ((List.replicate n (⟨c⟩ : Array Nat)).foldl (· ++ ·) ⟨a⟩) = ⟨a ++ (List.replicate n c).flatten⟩
  | 0, a => by simp
  | n + 1, a => by
    rw [List.replicate_succ, List.foldl_cons, List.append_toArray, rep_flat c n, List.replicate_succ, List.flatten_cons, List.append_assoc]
theorem op_mulStrC : OpR X (binaryOp .Mult) rMulC := by
  intro pins s σ H x y v u Q I rx ry h
  obtain ⟨a, n, rfl, rfl, n0, n1, al, q⟩ := h
  obtain ⟨t, rfl⟩ := rx
  obtain ⟨t', rfl⟩ := ry
  have s20 : 1000000 ≤ sizeLine := by rw [sizeLine_eq]; decide
  have z1 : (strL a).length * n.toNat ≤ 10 * 100 := Nat.mul_le_mul (by show a.toArray.size ≤ 10; simpa using al) (by omega)
  have al : (strL a).length ≤ 10 := by show a.toArray.size ≤ 10; simpa using al
  have ql : ∀ b : Str, b = strL (List.replicate n.toNat a).flatten → Q (.str b) H := fun b e => by rw [e]; exact q
  refine P.mul_str (by simp; omega) (fun c _ => ?_) (fun _ _ => ?_) ?_
  · have : (2 ^ 63 - 1) / (100 : Int) ≤ (2 ^ 63 - 1) / n := by
      refine Int.le_ediv_of_mul_le (by omega) ?_
      have : (2 ^ 63 - 1) / (100 : Int) * n ≤ (2 ^ 63 - 1) / (100 : Int) * 100 := Int.mul_le_mul_of_nonneg_left n1 (by decide)
      exact Int.le_trans this (by decide)
    have b : (10 : Int) ≤ (2 ^ 63 - 1) / 100 := by decide
    omega
  · simp only [Builtin.Str.tooLong, decide_eq_false_iff_not]; omega
  · split
    · refine ⟨Nat.le_trans (show (0 : Nat) ≤ 1000000 by decide) s20, .str _, H, I.tok _, ⟨_, rfl⟩, ql _ ?_⟩
      have : n.toNat = 0 := by omega
      rw [this]; rfl
    · split
      · rename_i c1 c2
        refine ⟨.str _, H, I, ⟨_, rfl⟩, ql _ ?_⟩
        simp only [Bool.or_eq_true, beq_iff_eq] at c2
        rcases c2 with e | e
        · subst e; simp [strL]
        · have : a = [] := List.eq_nil_of_length_eq_zero (by have e : a.toArray.size = 0 := e; simpa using e)
          subst this; simp
      · have e : (⟨(List.replicate n.toNat (strL a).cps).foldl (· ++ ·) #[]⟩ : Str) = strL (List.replicate n.toNat a).flatten := by
          unfold strL; congr 1; have := rep_flat a n.toNat []; simpa using this
        have e2 : (strL (List.replicate n.toNat a).flatten).length = (strL a).length * n.toNat := by
          show (List.replicate n.toNat a).flatten.toArray.size = a.toArray.size * n.toNat
          simp [List.length_flatten, Nat.mul_comm]
        exact ⟨by show Str.length ⟨(List.replicate n.toNat (strL a).cps).foldl (· ++ ·) #[]⟩ ≤ sizeLine; rw [e, e2]; omega, .str _, H, I.tok _, ⟨_, rfl⟩, ql _ e⟩
theorem pe_bmK {K : PySem.W.Frag} {o e : Expr} {es : List Expr} {to : TE} {t : TA} {name : Str} {apos cpos : Pos} {T id : String} {r : V → List V → Hp → VK → Prop} (hK : X.K = K) (pa : PlainAttrs T) (slot : Slot T name id) (hty : typeOf (.builtin id) = pure (.type "method_descriptor")) (hm : MtR X id r) (ho : PE X o to) (ha : PA X (e :: es) t)
    (hbase : attributeBase o name X.env (eval o X.env) = eval o X.env := by rfl)
    (hfew : ((backTo cpos (starEach (e :: es) X.env)).all (fun x => !x.1) && (backToKw cpos (keywordEach [] X.env)).all (fun x => x.1.isSome)
      && decide ((e :: es).length + ([] : List Keyword).length + (if ([] : List Keyword).isEmpty then 0 else 1) < 30)) = true := by rfl)
    (hline : (apos.endLine == cpos.line) = true := by rfl) (hs : starEach (e :: es) X.env = (false, eval e X.env) :: starEach es X.env := by rfl) (hplain : (backTo cpos (starEach es X.env)).any (·.1) = false := by rfl) :
    PE X (.Call (.Attribute o name apos) (e :: es) [] cpos) (tBM K T r to t) := by
  subst hK
  exact pe_bm pa slot hty hm ho ha hbase hfew hline hs hplain
end
end L2
theorem PySem.W.Fast.tw11727834611123415026 : True := trivial
theorem PySem.W.Fast.tw15167453669436154525 : True := trivial
theorem PySem.W.Fast.tw9531158692091125943 : True := trivial
theorem PySem.W.Fast.tw13512000749605307703 : True := trivial
theorem PySem.W.Fast.tw2211565517087377553 : True := trivial
theorem PySem.W.Fast.tw567877392114371837 : True := trivial
theorem PySem.W.Fast.tw81717976243376574 : True := trivial
theorem PySem.W.Fast.tw11703017182205727832 : True := trivial
theorem PySem.W.Fast.tw5052007582638272592 : True := trivial
theorem PySem.W.Fast.tw8152335602564570290 : True := trivial
theorem PySem.W.Fast.tw8959046005473157953 : True := trivial
theorem PySem.W.Fast.tw7084700916512872336 : True := trivial
theorem PySem.W.Fast.tw2637468657700112206 : True := trivial
theorem PySem.W.Fast.tw9899356692275480968 : True := trivial
theorem PySem.W.Fast.tw17966772497688429234 : True := trivial
theorem PySem.W.Fast.tw2401502835917089750 : True := trivial
theorem PySem.W.Fast.tw6094143787266381723 : True := trivial
theorem PySem.W.Fast.tw3592564850499643356 : True := trivial
theorem PySem.W.Fast.tw14009160174810698190 : True := trivial
theorem PySem.W.Fast.tw18101372485794454602 : True := trivial
theorem PySem.W.Fast.tw9043693122767726977 : True := trivial
theorem PySem.W.Fast.tw4329901093834301761 : True := trivial
theorem PySem.W.Fast.tw17680766569303765686 : True := trivial
theorem PySem.W.Fast.tw5035803215841102000 : True := trivial
theorem PySem.W.Fast.tw8858362849584550800 : True := trivial
theorem PySem.W.Fast.tw6166027474962177830 : True := trivial
theorem PySem.W.Fast.tw9185122481667885340 : True := trivial
theorem PySem.W.Fast.tw12837612230463127353 : True := trivial
theorem PySem.W.Fast.tw3892543974847658392 : True := trivial
theorem PySem.W.Fast.tw16112935652985773607 : True := trivial
theorem PySem.W.Fast.tw16905466936213909012 : True := trivial
theorem PySem.W.Fast.tw2313897260025428803 : True := trivial
theorem PySem.W.Fast.tw4733354317476540182 : True := trivial
theorem PySem.W.Fast.tw4429122573628928556 : True := trivial
theorem PySem.W.Fast.tw1073710518717179358 : True := trivial
theorem PySem.W.Fast.tw3209688455298188306 : True := trivial
theorem PySem.W.Fast.tw1396538991157657157 : True := trivial
theorem PySem.W.Fast.tw7011442205593271579 : True := trivial
theorem PySem.W.Fast.tw812693513171096236 : True := trivial
theorem PySem.W.Fast.tw4449534664043898847 : True := trivial
theorem PySem.W.Fast.tw1013432226093815118 : True := trivial
theorem PySem.W.Fast.tw3159295666495975175 : True := trivial
theorem PySem.W.Fast.tw10159690513493323627 : True := trivial
theorem PySem.W.Fast.tw3898270160508462642 : True := trivial
theorem PySem.W.Fast.tw8128462108388855943 : True := trivial
theorem PySem.W.Fast.tw12400574168747708955 : True := trivial
theorem PySem.W.Fast.tw3783740117972540072 : True := trivial
theorem PySem.W.Fast.tw4034670414922084336 : True := trivial
theorem PySem.W.Fast.tw8754026734954815853 : True := trivial
theorem PySem.W.Fast.tw17450544875072866494 : True := trivial
theorem PySem.W.Fast.tw940346932695024390 : True := trivial
theorem PySem.W.Fast.tw1989040274916186069 : True := trivial
theorem PySem.W.Fast.tw5316348348122139585 : True := trivial
theorem PySem.W.Fast.tw2292121869927424130 : True := trivial
theorem PySem.W.Fast.tw9322994230393074709 : True := trivial
theorem PySem.W.Fast.tw5657953565503513221 : True := trivial
theorem PySem.W.Fast.tw7911132762567930421 : True := trivial
theorem PySem.W.Fast.tw644232269286780415 : True := trivial
theorem PySem.W.Fast.tw9767779912840164891 : True := trivial
theorem PySem.W.Fast.tw3490388432250166125 : True := trivial
theorem PySem.W.Fast.tw6435131834664238665 : True := trivial
theorem PySem.W.Fast.tw13014563520954779461 : True := trivial
theorem PySem.W.Fast.tw16476936075346335182 : True := trivial
theorem PySem.W.Fast.tw17623793237642400303 : True := trivial
theorem PySem.W.Fast.tw335586540740737122 : True := trivial
theorem PySem.W.Fast.tw2709448919923406414 : True := trivial
theorem PySem.W.Fast.tw507476443578800655 : True := trivial
theorem PySem.W.Fast.tw11434837171244888810 : True := trivial
theorem PySem.W.Fast.tw18060632045486061543 : True := trivial
theorem PySem.W.Fast.tw8705582134843275803 : True := trivial
theorem PySem.W.Fast.tw8878802585314541555 : True := trivial
theorem PySem.W.Fast.tw15839793318537028630 : True := trivial
theorem PySem.W.Fast.tw17169862613945206364 : True := trivial
theorem PySem.W.Fast.tw1858099875610442622 : True := trivial
theorem PySem.W.Fast.tw68009852545096857 : True := trivial
theorem PySem.W.Fast.tw11232167102971469150 : True := trivial
theorem PySem.W.Fast.tw3526165405563396164 : True := trivial
theorem PySem.W.Fast.tw10243534312726148881 : True := trivial
theorem PySem.W.Fast.tw8622917486885486471 : True := trivial
theorem PySem.W.Fast.tw1461315344819440519 : True := trivial
theorem PySem.W.Fast.tw5743789578930201458 : True := trivial
theorem PySem.W.Fast.tw3649619435342450258 : True := trivial
theorem PySem.W.Fast.tw8110333263564875907 : True := trivial
theorem PySem.W.Fast.tw13986685424224983325 : True := trivial
theorem PySem.W.Fast.tw17331549851112906716 : True := trivial
theorem PySem.W.Fast.tw6156068477581382660 : True := trivial
theorem PySem.W.Fast.tw10100916964511564073 : True := trivial
theorem PySem.W.Fast.tw17311811475007145119 : True := trivial
theorem PySem.W.Fast.tw17752228121246734534 : True := trivial
theorem PySem.W.Fast.tw13999492072676595222 : True := trivial
theorem PySem.W.Fast.tw16021033060760066833 : True := trivial
theorem PySem.W.Fast.tw13900732032617928231 : True := trivial
theorem PySem.W.Fast.tw16488713694989704755 : True := trivial
theorem PySem.W.Fast.tw2452340255014251916 : True := trivial
theorem PySem.W.Fast.tw1372886592257432279 : True := trivial
theorem PySem.W.Fast.tw3410490091186452209 : True := trivial
theorem PySem.W.Fast.tw16211861515841148468 : True := trivial
theorem PySem.W.Fast.tw16862606946686975348 : True := trivial
theorem PySem.W.Fast.tw3750668694517853773 : True := trivial
theorem PySem.W.Fast.tw1963099574423118878 : True := trivial
theorem PySem.W.Fast.tw4512353550683640046 : True := trivial
theorem PySem.W.Fast.tw17431328349926327196 : True := trivial
theorem PySem.W.Fast.tw13426744544024372955 : True := trivial
theorem PySem.W.Fast.tw4400438357294125377 : True := trivial
theorem PySem.W.Fast.tw17427050156227949307 : True := trivial

namespace My
open PySem L2 PyProof.Rows
local macro_rules | `(tactic| wp_walk using $xs:term,*) => `(tactic| simp only [rPopAt, rCount, tBMf, rStarts, rSlStrX, tKTab, rKTab, tKIn, for_eqZM, comp_eqZM, comp_eqTI, gTup, rJoinD, rJoinW, rMulS, rIxQ, rExtend, rSplit, rInN, rMulC, tDGet1, tDIn, sDPut, tDNewK, rRep, for_eqZL, comp_eqZL, rCatL, for_eqX, comp_eqX, rFind, tFR, rSlStr, rUpper, rJoin, tBM0, tBM, tyV, for_eqEL, comp_eqE, comp_eqEI, rNeT, rNeL, tRaise, tTry, tCallX, caughtBy, goneEnds, rCatA, rEqL, rEqT, for_eqV, for_eqZ, comp_eqZ, for_eqR3, comp_eqR3, tSl, tNoPart, tPart, rSetL, gSub, rIxT, tIfS, tRet, tRetN, tNext, tVar, tC, tOp, tUn, rI, rI0, rU, rEq, rNe, tTest, tB, tNot, tAnd, tOr, tAndV, tOrV, tNotV, tIf, tCall, tCB, tNil, tCons, tChain, tLst, tTup, tAsg, gName, tDrop, tNever, rIxL, rCat, CPow, CMul, CDiv, CDivN, CDivW, L2.start, scal, for_eqL, for_eqT, for_eqR1, for_eqR2, comp_eqL, comp_eqT, comp_eqR1, cxOf_K, cxComp_K, isi_ii, isi_ib, isi_bi, isi_bb, isi_it, tApp, gTupH, gCons, gNil, rInT, rInL, rIxLH, rIxTH, flatV, upd_same, HO.lst.injEq, HO.tup.injEq, List.any_cons, List.any_nil, List.all_cons, List.all_nil, Bool.or_false, Bool.and_self, Bool.and_true, Bool.or_eq_true, beq_iff_eq, V.int.injEq, V.bl.injEq, V.str.injEq, V.ref.injEq, V.ty.injEq, List.map_cons, List.map_nil, List.length_cons, List.length_nil, List.cons_append, List.nil_append, List.getElem?_cons_zero, List.getElem?_cons_succ, Option.some.injEq, exists_eq_left', exists_eq_left, exists_and_left, List.cons.injEq, and_true, true_and, and_assoc, decide_eq_true_eq, List.set_cons_zero, List.set_cons_succ, List.replicate, Nat.sub_self, List.append_nil, Nat.add_sub_cancel, Nat.reduceAdd, Nat.reduceSub, Int.reduceLT, Int.reduceLE, Int.reduceNeg, Int.reduceSub, Int.reduceAdd, Int.reducePow, Int.reduceToNat, na2, na10, Nat.reducePow, Nat.reduceLT, if_true, if_false, Bool.not_true, Bool.not_false, Bool.false_eq_true, List.mem_cons, List.not_mem_nil, eq_self, true_or, or_true, or_false, false_or, String.reduceEq, Option.isSome_some, ne_eq, not_false_eq_true, not_true_eq_false, Bool.not_eq_true', decide_eq_false_iff_not, Bool.true_eq_false, $[$xs:term],*])
def top (i : Nat) : Stmt := PySem.Challenge.pw_sideloom_k29_whole_read.main.body.getD i (.Pass ⟨0, 0, 0, 0⟩)
def formsL : List (Str × List (Str × Int)) := [("in", [("sides", 1)]), ("num", [("number", 1)]), ("count", [("small", 2), ("sides", 1)]), ("each", [("word", 1), ("step", 2)]), ("pair", [("word", 1), ("step", 2), ("step", 3)]), ("pick", [("step", 1), ("step", 2), ("step", 3)]), ("turn", [("step", 1), ("sides", 2)]), ("flip", [("step", 1), ("small", 2)]), ("cut", [("step", 1), ("small", 2), ("small", 3), ("small", 4), ("small", 5)]), ("spread", [("step", 1), ("small", 2), ("small", 3)]), ("lay", [("step", 1), ("sides", 2)]), ("join", [("step", 1), ("step", 2), ("small", 3)]), ("fetch", [("step", 1), ("step", 2)]), ("fold", [("word", 1), ("step", 2), ("small", 3)]), ("run", [("word", 1), ("step", 2), ("small", 3)])]
def ItemsAll (K : PySem.W.Frag) : List (Str × Int) → List V → Prop
  | [], [] => True
  | f :: fs, x :: xs => (∃ a, x = .ref a ∧ KTup K a [.str f.1, .int f.2]) ∧ ItemsAll K fs xs
  | _, _ => False
def PartsAll (K : PySem.W.Frag) : List (Str × List (Str × Int)) → List (Str × Addr) → Prop
  | [], [] => True
  | f :: fs, p :: ps => (p.1 = f.1 ∧ ∃ xs, KTup K p.2 xs ∧ ItemsAll K f.2 xs) ∧ PartsAll K fs ps
  | _, _ => False
def PartsOk (P : Program) (w : World) (K : PySem.W.Frag) (d : Addr) : Prop := ∃ kvs, KTab P w K d kvs ∧ PartsAll K formsL kvs
theorem ktup_of {K : PySem.W.Frag} {a : Addr} {od : Option Addr} {its : Array Value} {n : Nat} {sl : Array (Option Value)} {xs : List V} (h : K.lookup a = some ⟨.type "tuple", od, .seq its n, sl⟩) (z : its.size ≤ sizeLine) (v : Vals xs its.toList) : KTup K a xs := ⟨_, its, n, h, rfl, rfl, z, v⟩
theorem parts_look {K : PySem.W.Frag} : ∀ {fs : List (Str × List (Str × Int))} {kvs : List (Str × Addr)}, PartsAll K fs kvs → ∀ {x : Str} {f : List (Str × Int)}, fs.lookup x = some f → ∃ a xs, kvs.lookup x = some a ∧ KTup K a xs ∧ ItemsAll K f xs
  | [], _, _, x, f, e => nomatch e
  | _ :: _, [], h, _, _, _ => h.elim
  | (g, gs) :: fs, (p, pa) :: ps, h, x, f, e => by
    obtain ⟨⟨e1, xs, k1, k2⟩, h2⟩ := h
    cases (show p = g from e1)
    rw [List.lookup_cons] at e ⊢
    by_cases c : x == g
    · rw [c] at e ⊢
      cases e
      exact ⟨pa, xs, rfl, k1, k2⟩
    · have c : (x == g) = false := by simpa using c
      rw [c] at e ⊢
      exact parts_look h2 e
theorem items_at {K : PySem.W.Frag} : ∀ {fs : List (Str × Int)} {xs : List V}, ItemsAll K fs xs → xs.length = fs.length ∧ ∀ {i : Nat} {x : V}, xs[i]? = some x → ∃ f a, fs[i]? = some f ∧ x = .ref a ∧ KTup K a [.str f.1, .int f.2]
  | [], [], _ => ⟨rfl, fun e => by simp at e⟩
  | [], _ :: _, h => h.elim
  | _ :: _, [], h => h.elim
  | f :: fs, y :: ys, h => by
    obtain ⟨⟨a, e1, k1⟩, h2⟩ := h
    obtain ⟨l, at2⟩ := items_at h2
    refine ⟨by simp [l], fun {i x} e => ?_⟩
    cases i with
    | zero => cases e; exact ⟨f, a, rfl, e1, k1⟩
    | succ i => exact at2 e
theorem kd15 {n : Nat} (h : n < 15) : n = 0 ∨ n = 1 ∨ n = 2 ∨ n = 3 ∨ n = 4 ∨ n = 5 ∨ n = 6 ∨ n = 7 ∨ n = 8 ∨ n = 9 ∨ n = 10 ∨ n = 11 ∨ n = 12 ∨ n = 13 ∨ n = 14 := by omega
theorem len_map (ns : List Int) : (ns.map V.int).length = ns.length := List.length_map ..
theorem seq_with {A B : TS} {D : Ends} {σ : L2.St} {H : Hp} (J : L2.St → Hp → Prop) (h2 : ∀ σ H, J σ H → B D σ H) (h1 : ∀ R : L2.St → Hp → Prop, (∀ σ H, J σ H → R σ H) → A { D with nx := R } σ H) : tSeq A B D σ H := h1 (B D) h2
theorem cut_any (ns : List Int) (k : Nat) : cutV (ns.map V.int) none (some (k : Int)) = (ns.take k).map V.int := by
  unfold cutV; simp only [HT.sIx, len_map]; rw [if_neg (by omega), List.drop_zero, Nat.sub_zero, ← List.map_take]; congr 1
  by_cases c : k ≤ ns.length
  · congr 1; omega
  · rw [List.take_of_length_le (by omega), List.take_of_length_le (by omega)]
def drawF (c k m : Int) : Int := (c * 48271 + (k + 1) * (k + 1) * 69621) % 2147483647 * ((c * 48271 + (k + 1) * (k + 1) * 69621) % 2147483647) % 2147483629 % m
theorem draw_rng (c k : Int) {m : Int} (h : 0 < m) : 0 ≤ drawF c k m ∧ drawF c k m < m := ⟨Int.emod_nonneg _ (by omega), Int.emod_lt_of_pos _ h⟩
def topF (c k : Int) : Int := if drawF c k 2 = 0 then 5 else 1000
theorem top_pos (c k : Int) : 0 < topF c k := by unfold topF; split <;> decide
theorem top_at (c k : Int) : atI [V.int 5, V.int 1000] (drawF c k 2) = some (.int (topF c k)) := by
  have h := draw_rng c k (show (0 : Int) < 2 by decide)
  unfold topF
  rcases (show drawF c k 2 = 0 ∨ drawF c k 2 = 1 by omega) with e | e <;> rw [e] <;> rfl
def smallsF (c k : Int) (n : Nat) : List Int := (List.range n).map fun (j : Nat) => drawF c (k + 1 + (0 + (j : Int))) (topF c k)
theorem smalls_len (c k : Int) (n : Nat) : (smallsF c k n).length = n := by simp [smallsF]
theorem smalls_snoc (c k : Int) (n : Nat) : smallsF c k (n + 1) = smallsF c k n ++ [drawF c (k + 1 + (0 + (n : Int))) (topF c k)] := by
  unfold smallsF; rw [List.range_succ, List.map_append]; rfl
def wl8 : List Str := ["neg", "add", "max", "xor", "zzzzzzzz", "q", "in", "out"]
def letterF (i : Int) : Str := ⟨#[97 + i.toNat]⟩
def lettersF (c : Int) (n : Nat) : List Str := (List.range n).map fun (j : Nat) => letterF (drawF c (22 + (0 + (j : Int))) 26)
theorem letters_snoc (c : Int) (n : Nat) : lettersF c (n + 1) = lettersF c n ++ [letterF (drawF c (22 + (0 + (n : Int))) 26)] := by
  unfold lettersF; rw [List.range_succ, List.map_append]; rfl
theorem letters_len (c : Int) (n : Nat) : (lettersF c n).length = n := by simp [lettersF]
theorem abc_at : ∀ i : Fin 26, ("abcdefghijklmnopqrstuvwxyz" : Str).cps[i.val]? = some (97 + i.val) := by decide +kernel
theorem abc_len : ("abcdefghijklmnopqrstuvwxyz" : Str).length = 26 := by decide +kernel
def wordF (c : Int) : Str := if drawF c 20 12 < 8 then wl8.getD (drawF c 20 12).toNat "" else Builtin.Str.glued "" (lettersF c (1 + drawF c 21 8).toNat)
theorem str_at {ws : List Str} {m : Int} (h0 : 0 ≤ m) (h1 : m < ws.length) : atI (ws.map V.str) m = some (.str (ws.getD m.toNat "")) := by
  have z := atI_nat (xs := ws.map V.str) (j := m.toNat) (v := .str (ws.getD m.toNat "")) (by rw [List.getElem?_map, List.getD_eq_getElem?_getD, List.getElem?_eq_getElem (by omega)]; rfl)
  rwa [show ((m.toNat : Nat) : Int) = m by omega] at z
def bigF (c : Int) : Int := if drawF c 4 4 = 0 then [-9223372036854775808, 9223372036854775807, 0, -1].getD (drawF c 5 4).toNat 0 else if drawF c 4 4 = 1 then c % 21 - 10 else c % 18446744073709551616 - 9223372036854775808
def kinds : List Str := ["in", "num", "count", "each", "pair", "pick", "turn", "flip", "cut", "spread", "lay", "join", "fetch", "fold", "run"]
def kindS (i : Nat) : Str := kinds.getD i ""
def placesF (fs : List (Str × Int)) : List Int := fs.filterMap fun f => if f.1 = ("step" : Str) then some f.2 else none
def argsP (i : Nat) : List Int := placesF ((formsL.getD i ("", [])).2)
theorem forms_at {i : Nat} (h : i < 15) : formsL.lookup (kindS i) = some ((formsL.getD i ("", [])).2) := by
  have z : ∀ j : Fin 15, formsL.lookup (kindS j.val) = some ((formsL.getD j.val ("", [])).2) := by decide +kernel
  exact z ⟨i, h⟩
theorem forms_len {i : Nat} : ((formsL.getD i ("", [])).2).length ≤ 5 := by
  by_cases h : i < 15
  · have z : ∀ j : Fin 15, ((formsL.getD j.val ("", [])).2).length ≤ 5 := by decide +kernel
    exact z ⟨i, h⟩
  · rw [List.getD_eq_getElem?_getD, List.getElem?_eq_none (by simp [formsL]; omega)]; decide
def stepV (i : Nat) (ra : Addr) (w : Str) (b s0 s1 s2 s3 u0 u1 u2 : Int) : List V :=
  match i with
  | 0 => [.str "in", .ref ra]
  | 1 => [.str "num", .int b]
  | 2 => [.str "count", .ref ra, .int s0]
  | 3 => [.str "each", .str w, .int u0]
  | 4 => [.str "pair", .str w, .int u0, .int u1]
  | 5 => [.str "pick", .int u0, .int u1, .int u2]
  | 6 => [.str "turn", .int u0, .ref ra]
  | 7 => [.str "flip", .int u0, .int s0]
  | 8 => [.str "cut", .int u0, .int s0, .int s1, .int s2, .int s3]
  | 9 => [.str "spread", .int u0, .int s0, .int s1]
  | 10 => [.str "lay", .int u0, .ref ra]
  | 11 => [.str "join", .int u0, .int u1, .int s0]
  | 12 => [.str "fetch", .int u0, .int u1]
  | 13 => [.str "fold", .str w, .int u0, .int s0]
  | _ => [.str "run", .str w, .int u0, .int s0]
theorem below15 {P : Nat → Prop} {i : Nat} (h : i < 15) (h0 : P 0) (h1 : P 1) (h2 : P 2) (h3 : P 3) (h4 : P 4) (h5 : P 5) (h6 : P 6) (h7 : P 7) (h8 : P 8) (h9 : P 9) (h10 : P 10) (h11 : P 11) (h12 : P 12) (h13 : P 13) (h14 : P 14) : P i := by
  match i, h with
  | 0, _ => exact h0
  | 1, _ => exact h1
  | 2, _ => exact h2
  | 3, _ => exact h3
  | 4, _ => exact h4
  | 5, _ => exact h5
  | 6, _ => exact h6
  | 7, _ => exact h7
  | 8, _ => exact h8
  | 9, _ => exact h9
  | 10, _ => exact h10
  | 11, _ => exact h11
  | 12, _ => exact h12
  | 13, _ => exact h13
  | 14, _ => exact h14
  | n + 15, h => omega
theorem step_head {i : Nat} (h : i < 15) (ra : Addr) (w : Str) (b s0 s1 s2 s3 u0 u1 u2 : Int) : (stepV i ra w b s0 s1 s2 s3 u0 u1 u2)[0]? = some (.str (kindS i)) := by
  revert h
  exact fun h => below15 (P := fun i => (stepV i ra w b s0 s1 s2 s3 u0 u1 u2)[0]? = some (.str (kindS i))) h rfl rfl rfl rfl rfl rfl rfl rfl rfl rfl rfl rfl rfl rfl rfl
def AlAt (H : Hp) : Nat → V → V → Prop
  | 0, _, _ => False
  | d + 1, x, y => (∃ n, x = .int n ∧ y = .int n) ∨ (∃ s, x = .str s ∧ y = .str s) ∨ ∃ a b xs ys, x = .ref a ∧ y = .ref b ∧ H a = some (.tup xs) ∧ H b = some (.tup ys) ∧ xs.length = ys.length ∧ xs.length ≤ 1000 ∧ ∀ (i : Nat) x y, xs[i]? = some x → ys[i]? = some y → AlAt H d x y
def AlL (H : Hp) (d : Nat) : List V → List V → Prop
  | [], [] => True
  | x :: xs, y :: ys => AlAt H d x y ∧ AlL H d xs ys
  | _, _ => False
theorem AlL.get {H : Hp} {d : Nat} : ∀ {xs ys : List V}, AlL H d xs ys → xs.length = ys.length ∧ ∀ (i : Nat) x y, xs[i]? = some x → ys[i]? = some y → AlAt H d x y
  | [], [], _ => ⟨rfl, fun i x y e => by simp at e⟩
  | [], _ :: _, h => h.elim
  | _ :: _, [], h => h.elim
  | x :: xs, y :: ys, h => ⟨by simp [h.2.get.1], fun i x' y' e1 e2 => by
    cases i with
    | zero => cases e1; cases e2; exact h.1
    | succ i => exact h.2.get.2 i x' y' e1 e2⟩
theorem AlAt.tup {H : Hp} {d : Nat} {a b : Addr} {xs ys : List V} (ha : H a = some (.tup xs)) (hb : H b = some (.tup ys)) (l : xs.length ≤ 1000) (h : AlL H d xs ys) : AlAt H (d + 1) (.ref a) (.ref b)   := Or.inr (.inr ⟨a, b, xs, ys, rfl, rfl, ha, hb, h.get.1, l, h.get.2⟩)
theorem AlL.ints {H : Hp} {d : Nat} : ∀ (ns : List Int), AlL H (d + 1) (ns.map V.int) (ns.map V.int)
  | [] => trivial
  | n :: ns => ⟨Or.inl ⟨n, rfl, rfl⟩, AlL.ints ns⟩
theorem AlAt.same {H H' : Hp} (s : Same H H') : ∀ {d : Nat} {x y : V}, AlAt H d x y → AlAt H' d x y
  | 0, _, _, h => h.elim
  | d + 1, _, _, .inl h => Or.inl h
  | d + 1, _, _, .inr (.inl h) => Or.inr (.inl h)
  | d + 1, _, _, .inr (.inr ⟨a, b, xs, ys, e1, e2, h1, h2, l1, l2, h⟩) => Or.inr (.inr ⟨a, b, xs, ys, e1, e2, s _ _ h1, s _ _ h2, l1, l2, fun i x y g1 g2 => (h i x y g1 g2).same s⟩)
theorem step_al {H : Hp} {i : Nat} (h : i < 15) {ra rb : Addr} {row : List Int} (hr : H ra = some (.tup (row.map V.int))) (hs : H rb = some (.tup (row.map V.int))) (l : row.length ≤ 1000) (w : Str) (b s0 s1 s2 s3 u0 u1 u2 : Int) :
    AlL H 2 (stepV i ra w b s0 s1 s2 s3 u0 u1 u2) (stepV i rb w b s0 s1 s2 s3 u0 u1 u2) := by
  have r : AlAt H 2 (.ref ra) (.ref rb) := .tup hr hs (by rw [List.length_map]; exact l) (.ints row)
  have n : ∀ k : Int, AlAt H 2 (.int k) (.int k) := fun k => Or.inl ⟨k, rfl, rfl⟩
  have t : ∀ k : Str, AlAt H 2 (.str k) (.str k) := fun k => Or.inr (.inl ⟨k, rfl, rfl⟩)
  exact below15 (P := fun i => AlL H 2 (stepV i ra w b s0 s1 s2 s3 u0 u1 u2) (stepV i rb w b s0 s1 s2 s3 u0 u1 u2)) h ⟨t _, r, trivial⟩ ⟨t _, n _, trivial⟩ ⟨t _, r, n _, trivial⟩ ⟨t _, t _, n _, trivial⟩ ⟨t _, t _, n _, n _, trivial⟩ ⟨t _, n _, n _, n _, trivial⟩ ⟨t _, n _, r, trivial⟩ ⟨t _, n _, n _, trivial⟩ ⟨t _, n _, n _, n _, n _, n _, trivial⟩ ⟨t _, n _, n _, n _, trivial⟩ ⟨t _, n _, r, trivial⟩ ⟨t _, n _, n _, n _, trivial⟩ ⟨t _, n _, n _, trivial⟩ ⟨t _, t _, n _, n _, trivial⟩ ⟨t _, t _, n _, n _, trivial⟩
theorem step_len {i : Nat} (h : i < 15) (ra : Addr) (w : Str) (b s0 s1 s2 s3 u0 u1 u2 : Int) : (stepV i ra w b s0 s1 s2 s3 u0 u1 u2).length ≤ 6 :=
  below15 (P := fun i => (stepV i ra w b s0 s1 s2 s3 u0 u1 u2).length ≤ 6) h (by simp [stepV]) (by simp [stepV]) (by simp [stepV]) (by simp [stepV]) (by simp [stepV]) (by simp [stepV]) (by simp [stepV]) (by simp [stepV]) (by simp [stepV]) (by simp [stepV]) (by simp [stepV]) (by simp [stepV]) (by simp [stepV]) (by simp [stepV]) (by simp [stepV])
def smF (c : Int) (k : Nat) : Int := (smallsF c 50 4).getD k 0
def madeV (i : Nat) (ra : Addr) (c u0 u1 u2 : Int) : List V := stepV i ra (wordF c) (bigF c) (smF c 0) (smF c 1) (smF c 2) (smF c 3) u0 u1 u2
def rowF (c : Int) : List Int := smallsF c 40 (drawF c 31 9).toNat
open PySem.NumText in
def D (m : Nat) : List Nat := (Nat.toDigits 10 m).map Char.toNat
theorem digc : ∀ d : Nat, d < 10 → (Nat.digitChar d).toNat = 48 + d := by decide
theorem D_lt {m : Nat} (h : m < 10) : D m = [48 + m] := by unfold D; rw [Nat.toDigits_of_lt_base h]; show [(Nat.digitChar m).toNat] = _; rw [digc m h]
theorem D_ge {m : Nat} (h : 10 ≤ m) : D m = D (m / 10) ++ [48 + m % 10] := by
  have hm : m % 10 < 10 := Nat.mod_lt m (by decide)
  have t : Nat.toDigits 10 (m / 10) ++ Nat.toDigits 10 (m % 10) = Nat.toDigits 10 (10 * (m / 10) + m % 10) := Nat.toDigits_append_toDigits (by decide) (by omega) hm
  rw [Nat.div_add_mod] at t
  unfold D
  rw [← t, List.map_append, Nat.toDigits_of_lt_base hm]
  show _ ++ [(Nat.digitChar (m % 10)).toNat] = _
  rw [digc _ hm]
theorem D_dig (m : Nat) : ∀ c ∈ D m, 48 ≤ c ∧ c ≤ 57 := by
  induction m using Nat.strongRecOn with
  | _ m ih =>
    intro c hc
    by_cases h : m < 10
    · rw [D_lt h] at hc; cases List.mem_singleton.mp hc; omega
    · rw [D_ge (by omega)] at hc
      rcases List.mem_append.mp hc with hc | hc
      · exact ih (m / 10) (by omega) c hc
      · cases List.mem_singleton.mp hc; omega
theorem D_val (m : Nat) : PySem.NumText.digitsVal (D m) = m := PySem.W.KIN.val_back m
theorem D_pos (m : Nat) : 1 ≤ (D m).length := by
  by_cases h : m < 10
  · rw [D_lt h]; simp
  · rw [D_ge (by omega)]; simp
theorem D_len (k : Nat) : ∀ m : Nat, (D m).length ≤ k + 1 ↔ m < 10 ^ (k + 1) := by
  induction k with
  | zero =>
    intro m
    by_cases h : m < 10
    · rw [D_lt h]; simp; omega
    · rw [D_ge (by omega), List.length_append]
      have p := D_pos (m / 10)
      constructor
      · intro z; have z2 : (D (m / 10)).length + 1 ≤ 1 := z; omega
      · intro z; have z2 : m < 10 := z; omega
  | succ k ih =>
    intro m
    by_cases h : m < 10
    · rw [D_lt h]
      have : 10 ≤ 10 ^ (k + 1 + 1) := Nat.le_trans (by decide) (Nat.pow_le_pow_right (by decide) (show 1 ≤ k + 1 + 1 by omega))
      simp; omega
    · rw [D_ge (by omega), List.length_append]
      have := ih (m / 10)
      rw [Nat.pow_succ, show (D (m / 10)).length + [48 + m % 10].length ≤ k + 1 + 1 ↔ (D (m / 10)).length ≤ k + 1 by simp, this]
      omega
theorem D_head (m : Nat) (r : List Nat) (h : D m = 48 :: r) : m = 0 := by
  revert r
  induction m using Nat.strongRecOn with
  | _ m ih =>
    intro r e
    by_cases h : m < 10
    · rw [D_lt h] at e; injection e with e1 _; omega
    · rw [D_ge (by omega)] at e
      have p := D_pos (m / 10)
      cases hd : D (m / 10) with
      | nil => rw [hd] at p; simp at p
      | cons c cs =>
        rw [hd] at e
        injection e with e1 _
        have := ih (m / 10) (by omega) cs (by rw [hd, e1])
        omega
def digB (c : Nat) : Bool := decide (48 ≤ c) && decide (c ≤ 57)
def madeB (L : List Nat) (m : Int) : Bool := decide (1 ≤ (L.length : Int)) && (decide ((L.length : Int) ≤ m) && L.all digB)
def figI (L : List Nat) (m : Int) : Option Nat := if madeB L m = true then (if L.head? = some 48 ∧ 1 < L.length then none else some (PySem.NumText.digitsVal L)) else none
def rngI (n : Int) : Option Int := if -9223372036854775808 ≤ n ∧ n ≤ 9223372036854775807 then some n else none
def numI (L : List Nat) : Option Int :=
  if L = [45, 48] then none else if L.head? = some 45 then (figI (L.drop 1) 19).bind (fun n => rngI (-(n : Int))) else (figI L 19).bind (fun n => rngI (n : Int))
def optV : Option Int → V | none => .non | some n => .int n
def optN : Option Nat → V | none => .non | some n => .int (n : Int)
def lowS (x : Str) : Prop := x.cps.size ≤ 100 ∧ ∀ c ∈ x.cps.toList, c < 128
theorem fig_in : ∀ c : Fin 128, (!(Builtin.Str.occurrences "0123456789" ⟨#[c.val]⟩ 0 ("0123456789" : Str).length 1).isEmpty) = digB c.val := by decide +kernel
theorem made_D {m : Nat} {k : Nat} : madeB (D m) ((k + 1 : Nat) : Int) = true ↔ m < 10 ^ (k + 1) := by
  unfold madeB
  have a : (D m).all digB = true := List.all_eq_true.mpr fun c hc => by have := D_dig m c hc; simp [digB]; omega
  have b := D_pos m
  have c := D_len k m
  rw [a]
  simp only [Bool.and_true, Bool.and_eq_true, decide_eq_true_eq]
  omega
theorem fig_D {m k : Nat} : figI (D m) ((k + 1 : Nat) : Int) = if m < 10 ^ (k + 1) then some m else none := by
  unfold figI
  by_cases h : m < 10 ^ (k + 1)
  · rw [if_pos (made_D.mpr h), if_pos h, D_val]
    rw [if_neg]
    rintro ⟨h1, h2⟩
    cases e : D m with
    | nil => rw [e] at h1; cases h1
    | cons c r =>
      rw [e] at h1
      have z := D_head m r (by rw [e]; injection h1 with h1; rw [h1])
      subst z
      rw [D_lt (by decide)] at h2
      simp at h2
  · rw [if_neg (fun z => h (made_D.mp z)), if_neg h]
theorem fig_bad {L : List Nat} {m : Int} {c : Nat} (h : c ∈ L) (b : digB c = false) : figI L m = none := by
  unfold figI
  rw [if_neg]
  intro z
  unfold madeB at z
  simp only [Bool.and_eq_true] at z
  have := List.all_eq_true.mp z.2.2 c h
  rw [b] at this; cases this
theorem D_45 (m : Nat) : (D m).head? ≠ some 45 := by
  intro h
  have := D_dig m 45 (List.mem_of_head? h)
  omega
theorem num_pos {m : Nat} (h : m < 10 ^ 20) : numI (D m) = rngI (m : Int) := by
  unfold numI
  rw [if_neg (fun z => D_45 m (by rw [z]; rfl)), if_neg (D_45 m), show (19 : Int) = ((18 + 1 : Nat) : Int) from rfl, fig_D]
  by_cases c : m < 10 ^ (18 + 1)
  · rw [if_pos c]; rfl
  · rw [if_neg c]
    unfold rngI
    rw [if_neg (by omega)]; rfl
theorem num_neg {m : Nat} (h0 : m ≠ 0) (h : m < 10 ^ 20) : numI (45 :: D m) = rngI (-(m : Int)) := by
  unfold numI
  rw [if_neg (fun z => by injection z with _ z; exact h0 (D_head m [] z)), if_pos (show (45 :: D m).head? = some 45 from rfl), List.drop_one, List.tail_cons, show (19 : Int) = ((18 + 1 : Nat) : Int) from rfl, fig_D]
  by_cases c : m < 10 ^ (18 + 1)
  · rw [if_pos c]; rfl
  · rw [if_neg c]
    unfold rngI
    rw [if_neg (by omega)]; rfl
def txtL (n : Int) : List Nat := if 0 ≤ n then D n.toNat else 45 :: D (-n).toNat
theorem txt_is (n : Int) : (Str.ofString (toString n)).cps.toList = txtL n := by
  unfold txtL
  by_cases h : 0 ≤ n
  · rw [if_pos h]
    obtain ⟨m, rfl⟩ := Int.eq_ofNat_of_zero_le h
    exact PySem.W.KIN.signs_num m
  · rw [if_neg h]
    obtain ⟨k, rfl⟩ : ∃ k : Nat, n = Int.negSucc k := ⟨(-n - 1).toNat, by omega⟩
    have e : (-(Int.negSucc k)).toNat = k + 1 := by omega
    rw [e, PyProof.Rows.signs_ofString]
    show ("-" ++ Nat.repr (k + 1)).toList.map Char.toNat = 45 :: D (k + 1)
    rw [String.toList_append, List.map_append, Nat.toList_repr]
    rfl
theorem txt_low (n : Int) (h : n.natAbs < 10 ^ 20) : lowS (Str.ofString (toString n)) := by
  have e := txt_is n
  have l : ∀ m : Nat, m < 10 ^ 20 → (D m).length ≤ 20 := fun m hm => (D_len 19 m).mpr hm
  refine ⟨?_, ?_⟩
  · rw [← Array.length_toList, e]
    unfold txtL
    split
    · have := l n.toNat (by omega); omega
    · have := l (-n).toNat (by omega); simp; omega
  · rw [e]
    unfold txtL
    intro c hc
    split at hc
    · have := D_dig _ c hc; omega
    · rcases List.mem_cons.mp hc with rfl | hc
      · decide
      · have := D_dig _ c hc; omega
def low (L : List Nat) : Prop := ∀ d ∈ L, d < 26
structure Sd where
  kd : Nat
  c : Int
  u0 : Nat
  u1 : Nat
  u2 : Nat
def sI (n : Int) : Str := Str.ofString (toString n)
def stV (d : Sd) (ra : Addr) : List V := madeV d.kd ra d.c d.u0 d.u1 d.u2
def SdAt (H : Hp) (d : Sd) (a : Addr) : Prop := ∃ ra, H a = some (.tup (stV d ra)) ∧ H ra = some (.tup ((rowF d.c).map V.int))
theorem SdAt.same {H H' : Hp} (s : Same H H') {d : Sd} {a : Addr} (h : SdAt H d a) : SdAt H' d a := let ⟨ra, h1, h2⟩ := h; ⟨ra, s _ _ h1, s _ _ h2⟩
def SdOk (n : Nat) (d : Sd) : Prop := d.kd < 15 ∧ d.u0 < n ∧ d.u1 < n ∧ d.u2 < n
def NmAt (H : Hp) (a : Addr) (nm : List Str) : Prop := H a = some (.lst (nm.map V.str)) ∨ H a = some (.tup (nm.map V.str))
theorem NmAt.same {H H' : Hp} (s : Same H H') {a : Addr} {nm : List Str} (h : NmAt H a nm) : NmAt H' a nm := h.imp (s _ _) (s _ _)
def SdsAt (H : Hp) (ds : List Sd) (as : List Addr) : Prop := as.length = ds.length ∧ ∀ (i : Nat) d, ds[i]? = some d → ∃ a, as[i]? = some a ∧ SdAt H d a
theorem SdsAt.same {H H' : Hp} {ds : List Sd} {as : List Addr} (h : SdsAt H ds as) (s : Same H H') : SdsAt H' ds as := ⟨h.1, fun i d e => let ⟨a, e1, l⟩ := h.2 i d e; ⟨a, e1, l.same s⟩⟩
theorem SdAt.lst {H : Hp} {d : Sd} {a l : Addr} {xs : List V} {o : HO} (h : SdAt H d a) (hl : H l = some (.lst xs)) : SdAt (upd H l o) d a := by
  obtain ⟨ra, h1, h2⟩ := h
  exact ⟨ra, by rw [upd_ne (fun z => by rw [z, hl] at h1; cases h1)]; exact h1, by rw [upd_ne (fun z => by rw [z, hl] at h2; cases h2)]; exact h2⟩
theorem SdsAt.lst {H : Hp} {ds : List Sd} {as : List Addr} {l : Addr} {xs : List V} {o : HO} (h : SdsAt H ds as) (hl : H l = some (.lst xs)) : SdsAt (upd H l o) ds as := ⟨h.1, fun i d e => let ⟨a, e1, g⟩ := h.2 i d e; ⟨a, e1, g.lst hl⟩⟩
theorem SdsAt.snoc {H : Hp} {ds : List Sd} {as : List Addr} {d : Sd} {a : Addr} (h : SdsAt H ds as) (g : SdAt H d a) : SdsAt H (ds ++ [d]) (as ++ [a]) := by
  refine ⟨by simp [h.1], fun i d' e => ?_⟩
  rcases Nat.lt_trichotomy i ds.length with hi | hi | hi
  · rw [List.getElem?_append_left hi] at e
    obtain ⟨b, e1, l⟩ := h.2 i d' e
    exact ⟨b, by rw [List.getElem?_append_left (by rw [h.1]; exact hi)]; exact e1, l⟩
  · subst hi
    rw [List.getElem?_append_right (Nat.le_refl _), Nat.sub_self] at e
    cases (Option.some.inj e)
    exact ⟨a, by rw [List.getElem?_append_right (by rw [h.1]; exact Nat.le_refl _), h.1, Nat.sub_self]; rfl, g⟩
  · rw [List.getElem?_eq_none (by simp; omega)] at e; cases e
theorem atI_ok {ns : List Int} {k : Nat} (h : k < ns.length) : atI (ns.map V.int) (k : Int) = some (.int (ns.getD k 0)) := atI_nat (by rw [List.getElem?_map, List.getD_eq_getElem?_getD, List.getElem?_eq_getElem h]; rfl)
def nmOk (nm : List Str) : Prop := nm.length ≤ 40 ∧ ∀ x ∈ nm, x.length ≤ 20
def smR (row : List Int) : Prop := row.length ≤ 8 ∧ ∀ n ∈ row, 0 ≤ n ∧ n < 1000
theorem smalls_in (c k : Int) (n : Nat) : ∀ x ∈ smallsF c k n, 0 ≤ x ∧ x < 1000 := fun x hx => by
  obtain ⟨j, _, rfl⟩ := List.mem_map.mp hx
  have r := draw_rng c (k + 1 + (0 + (j : Int))) (top_pos c k)
  have t : topF c k ≤ 1000 := by unfold topF; split <;> decide
  omega
theorem row_sm (c : Int) : smR (rowF c) := by
  refine ⟨?_, smalls_in _ _ _⟩
  unfold rowF; rw [smalls_len]
  have := draw_rng c 31 (show (0 : Int) < 9 by decide)
  omega
theorem sm_in (c : Int) (k : Nat) : 0 ≤ smF c k ∧ smF c k < 1000 := by
  unfold smF
  rw [List.getD_eq_getElem?_getD]
  cases e : (smallsF c 50 4)[k]? with
  | none => simp
  | some x => exact smalls_in _ _ _ x (List.mem_of_getElem? e)
theorem sm_le (c : Int) (k : Nat) : (smF c k).natAbs < 10 ^ 20 := by have := sm_in c k; omega
theorem big_le (c : Int) : (bigF c).natAbs < 10 ^ 20 := by
  unfold bigF
  split
  · have r := draw_rng c 5 (show (0 : Int) < 4 by decide)
    generalize drawF c 5 4 = z at *
    rcases (show z = 0 ∨ z = 1 ∨ z = 2 ∨ z = 3 by omega) with rfl | rfl | rfl | rfl <;> decide
  · split <;> omega
theorem log_20 {n : Int} (h : n.natAbs < 10 ^ 20) : n.natAbs.log2 < 1920 := by
  by_cases z : n.natAbs = 0
  · rw [z]; decide
  · exact Nat.lt_of_lt_of_le ((Nat.log2_lt z).mpr (Nat.lt_of_lt_of_le h (show 10 ^ 20 ≤ 2 ^ 67 by decide))) (by decide)
theorem word_len (c : Int) : (wordF c).length ≤ 100 := by
  unfold wordF
  split
  · have r := draw_rng c 20 (show (0 : Int) < 12 by decide)
    have z : ∀ i : Fin 8, (wl8.getD i.val "").length ≤ 100 := by decide +kernel
    exact z ⟨(drawF c 20 12).toNat, by omega⟩
  · have r := draw_rng c 21 (show (0 : Int) < 8 by decide)
    refine Nat.le_trans (glued_len _ _) (Nat.le_trans (tot_le (k := 1) fun y hy => ?_) ?_)
    · obtain ⟨j, _, rfl⟩ := List.mem_map.mp hy
      exact Nat.le_refl 1
    · rw [letters_len]
      have : ("" : Str).length = 0 := by decide +kernel
      rw [this]; omega
theorem sI_len {n : Int} (h : n.natAbs < 10 ^ 20) : (sI n).length ≤ 100 := (txt_low n h).1
def PwOk (H : Hp) (nm : List Str) (kind : Str) (part : V) (ws : List Str) : Prop :=
  (kind = "step" ∧ ∃ (u : Nat) (x : Str), part = .int (u : Int) ∧ nm[u]? = some x ∧ ws = [x]) ∨ (kind = "sides" ∧ ∃ a row, part = .ref a ∧ H a = some (.tup (row.map V.int)) ∧ smR row ∧ ws = row.map sI) ∨
  (kind ≠ "step" ∧ kind ≠ "sides" ∧ ((∃ n : Int, part = .int n ∧ n.natAbs < 10 ^ 20 ∧ ws = [sI n]) ∨ ∃ t, part = .str t ∧ t.length ≤ 100 ∧ ws = [t]))
def partsL (d : Sd) (nm : List Str) : List (List Str) :=
  match d.kd with
  | 0 => [(rowF d.c).map sI]
  | 1 => [[sI (bigF d.c)]]
  | 2 => [[sI (smF d.c 0)], (rowF d.c).map sI]
  | 3 => [[wordF d.c], [nm.getD d.u0 ""]]
  | 4 => [[wordF d.c], [nm.getD d.u0 ""], [nm.getD d.u1 ""]]
  | 5 => [[nm.getD d.u0 ""], [nm.getD d.u1 ""], [nm.getD d.u2 ""]]
  | 6 => [[nm.getD d.u0 ""], (rowF d.c).map sI]
  | 7 => [[nm.getD d.u0 ""], [sI (smF d.c 0)]]
  | 8 => [[nm.getD d.u0 ""], [sI (smF d.c 0)], [sI (smF d.c 1)], [sI (smF d.c 2)], [sI (smF d.c 3)]]
  | 9 => [[nm.getD d.u0 ""], [sI (smF d.c 0)], [sI (smF d.c 1)]]
  | 10 => [[nm.getD d.u0 ""], (rowF d.c).map sI]
  | 11 => [[nm.getD d.u0 ""], [nm.getD d.u1 ""], [sI (smF d.c 0)]]
  | 12 => [[nm.getD d.u0 ""], [nm.getD d.u1 ""]]
  | 13 => [[wordF d.c], [nm.getD d.u0 ""], [sI (smF d.c 0)]]
  | _ => [[wordF d.c], [nm.getD d.u0 ""], [sI (smF d.c 0)]]
def lawL (d : Sd) (nm : List Str) : List (List Str) :=
  match d.kd with
  | 0 => [(rowF d.c).map sI]
  | 1 => [[sI (bigF d.c)]]
  | 2 => [(rowF d.c).map sI, []]
  | 3 => [[wordF d.c], [nm.getD d.u0 ""]]
  | 4 => [[wordF d.c], [nm.getD d.u0 ""], [nm.getD d.u1 ""]]
  | 5 => [[nm.getD d.u0 ""], [nm.getD d.u1 ""], [nm.getD d.u2 ""]]
  | 6 => [[nm.getD d.u0 ""], (rowF d.c).map sI]
  | 7 => [[nm.getD d.u0 ""], [sI (smF d.c 0)]]
  | 8 => [[nm.getD d.u0 ""], [sI (smF d.c 0)], [sI (smF d.c 1)], [sI (smF d.c 2)], [sI (smF d.c 3)]]
  | 9 => [[nm.getD d.u0 ""], [sI (smF d.c 0)], [sI (smF d.c 1)]]
  | 10 => [[nm.getD d.u0 ""], (rowF d.c).map sI]
  | 11 => [[nm.getD d.u0 ""], [nm.getD d.u1 ""], [sI (smF d.c 0)]]
  | 12 => [[nm.getD d.u0 ""], [nm.getD d.u1 ""]]
  | 13 => [[wordF d.c], [nm.getD d.u0 ""], [sI (smF d.c 0)]]
  | _ => [[wordF d.c], [nm.getD d.u0 ""], [sI (smF d.c 0)]]
def wordsF (d : Sd) (nm : List Str) : List Str := (partsL d nm).flatten
def rowS (d : Sd) (name : Str) (nm : List Str) : Str := Builtin.Str.glued " " ([name, "=", kindS d.kd] ++ wordsF d nm)
theorem getS {nm : List Str} {u : Nat} (h : u < nm.length) : nm[u]? = some (nm.getD u "") := by
  rw [List.getD_eq_getElem?_getD, List.getElem?_eq_getElem h]; rfl
theorem part_at {H : Hp} {nm : List Str} {d : Sd} {ra : Addr} (ok : SdOk nm.length d) (hr : H ra = some (.tup ((rowF d.c).map V.int))) : ∀ (j : Nat) f, ((formsL.getD d.kd ("", [])).2)[j]? = some f → ∃ x ws, atI (stV d ra) f.2 = some x ∧ (partsL d nm)[j]? = some ws ∧ PwOk H nm f.1 x ws := by
  obtain ⟨hk, l0, l1, l2⟩ := ok
  have hu0 := getS l0
  have hu1 := getS l1
  have hu2 := getS l2
  have smr := row_sm d.c
  rcases (kd15 ‹d.kd < 15›) with hk | hk | hk | hk | hk | hk | hk | hk | hk | hk | hk | hk | hk | hk | hk
  · rcases d with ⟨kd, c, u0, u1, u2⟩; cases (show kd = 0 from hk)
    intro j f e
    match j, e with
    | 0, e => cases (Option.some.inj (show some (("sides" : Str), (1 : Int)) = some f from e)); exact ⟨_, _, rfl, rfl, Or.inr (.inl ⟨rfl, ra, rowF (⟨0, c, u0, u1, u2⟩ : Sd).c, rfl, hr, smr, rfl⟩)⟩
    | n + 1, e => cases e
  · rcases d with ⟨kd, c, u0, u1, u2⟩; cases (show kd = 1 from hk)
    intro j f e
    match j, e with
    | 0, e => cases (Option.some.inj (show some (("number" : Str), (1 : Int)) = some f from e)); exact ⟨_, _, rfl, rfl, Or.inr (.inr ⟨by decide +kernel, by decide +kernel, .inl ⟨bigF (⟨1, c, u0, u1, u2⟩ : Sd).c, rfl, big_le c, rfl⟩⟩)⟩
    | n + 1, e => cases e
  · rcases d with ⟨kd, c, u0, u1, u2⟩; cases (show kd = 2 from hk)
    intro j f e
    match j, e with
    | 0, e => cases (Option.some.inj (show some (("small" : Str), (2 : Int)) = some f from e)); exact ⟨_, _, rfl, rfl, Or.inr (.inr ⟨by decide +kernel, by decide +kernel, .inl ⟨smF (⟨2, c, u0, u1, u2⟩ : Sd).c 0, rfl, sm_le c 0, rfl⟩⟩)⟩
    | 1, e => cases (Option.some.inj (show some (("sides" : Str), (1 : Int)) = some f from e)); exact ⟨_, _, rfl, rfl, Or.inr (.inl ⟨rfl, ra, rowF (⟨2, c, u0, u1, u2⟩ : Sd).c, rfl, hr, smr, rfl⟩)⟩
    | n + 2, e => cases e
  · rcases d with ⟨kd, c, u0, u1, u2⟩; cases (show kd = 3 from hk)
    intro j f e
    match j, e with
    | 0, e => cases (Option.some.inj (show some (("word" : Str), (1 : Int)) = some f from e)); exact ⟨_, _, rfl, rfl, Or.inr (.inr ⟨by decide +kernel, by decide +kernel, .inr ⟨wordF (⟨3, c, u0, u1, u2⟩ : Sd).c, rfl, word_len c, rfl⟩⟩)⟩
    | 1, e => cases (Option.some.inj (show some (("step" : Str), (2 : Int)) = some f from e)); exact ⟨_, _, rfl, rfl, Or.inl ⟨rfl, (⟨3, c, u0, u1, u2⟩ : Sd).u0, _, rfl, hu0, rfl⟩⟩
    | n + 2, e => cases e
  · rcases d with ⟨kd, c, u0, u1, u2⟩; cases (show kd = 4 from hk)
    intro j f e
    match j, e with
    | 0, e => cases (Option.some.inj (show some (("word" : Str), (1 : Int)) = some f from e)); exact ⟨_, _, rfl, rfl, Or.inr (.inr ⟨by decide +kernel, by decide +kernel, .inr ⟨wordF (⟨4, c, u0, u1, u2⟩ : Sd).c, rfl, word_len c, rfl⟩⟩)⟩
    | 1, e => cases (Option.some.inj (show some (("step" : Str), (2 : Int)) = some f from e)); exact ⟨_, _, rfl, rfl, Or.inl ⟨rfl, (⟨4, c, u0, u1, u2⟩ : Sd).u0, _, rfl, hu0, rfl⟩⟩
    | 2, e => cases (Option.some.inj (show some (("step" : Str), (3 : Int)) = some f from e)); exact ⟨_, _, rfl, rfl, Or.inl ⟨rfl, (⟨4, c, u0, u1, u2⟩ : Sd).u1, _, rfl, hu1, rfl⟩⟩
    | n + 3, e => cases e
  · rcases d with ⟨kd, c, u0, u1, u2⟩; cases (show kd = 5 from hk)
    intro j f e
    match j, e with
    | 0, e => cases (Option.some.inj (show some (("step" : Str), (1 : Int)) = some f from e)); exact ⟨_, _, rfl, rfl, Or.inl ⟨rfl, (⟨5, c, u0, u1, u2⟩ : Sd).u0, _, rfl, hu0, rfl⟩⟩
    | 1, e => cases (Option.some.inj (show some (("step" : Str), (2 : Int)) = some f from e)); exact ⟨_, _, rfl, rfl, Or.inl ⟨rfl, (⟨5, c, u0, u1, u2⟩ : Sd).u1, _, rfl, hu1, rfl⟩⟩
    | 2, e => cases (Option.some.inj (show some (("step" : Str), (3 : Int)) = some f from e)); exact ⟨_, _, rfl, rfl, Or.inl ⟨rfl, (⟨5, c, u0, u1, u2⟩ : Sd).u2, _, rfl, hu2, rfl⟩⟩
    | n + 3, e => cases e
  · rcases d with ⟨kd, c, u0, u1, u2⟩; cases (show kd = 6 from hk)
    intro j f e
    match j, e with
    | 0, e => cases (Option.some.inj (show some (("step" : Str), (1 : Int)) = some f from e)); exact ⟨_, _, rfl, rfl, Or.inl ⟨rfl, (⟨6, c, u0, u1, u2⟩ : Sd).u0, _, rfl, hu0, rfl⟩⟩
    | 1, e => cases (Option.some.inj (show some (("sides" : Str), (2 : Int)) = some f from e)); exact ⟨_, _, rfl, rfl, Or.inr (.inl ⟨rfl, ra, rowF (⟨6, c, u0, u1, u2⟩ : Sd).c, rfl, hr, smr, rfl⟩)⟩
    | n + 2, e => cases e
  · rcases d with ⟨kd, c, u0, u1, u2⟩; cases (show kd = 7 from hk)
    intro j f e
    match j, e with
    | 0, e => cases (Option.some.inj (show some (("step" : Str), (1 : Int)) = some f from e)); exact ⟨_, _, rfl, rfl, Or.inl ⟨rfl, (⟨7, c, u0, u1, u2⟩ : Sd).u0, _, rfl, hu0, rfl⟩⟩
    | 1, e => cases (Option.some.inj (show some (("small" : Str), (2 : Int)) = some f from e)); exact ⟨_, _, rfl, rfl, Or.inr (.inr ⟨by decide +kernel, by decide +kernel, .inl ⟨smF (⟨7, c, u0, u1, u2⟩ : Sd).c 0, rfl, sm_le c 0, rfl⟩⟩)⟩
    | n + 2, e => cases e
  · rcases d with ⟨kd, c, u0, u1, u2⟩; cases (show kd = 8 from hk)
    intro j f e
    match j, e with
    | 0, e => cases (Option.some.inj (show some (("step" : Str), (1 : Int)) = some f from e)); exact ⟨_, _, rfl, rfl, Or.inl ⟨rfl, (⟨8, c, u0, u1, u2⟩ : Sd).u0, _, rfl, hu0, rfl⟩⟩
    | 1, e => cases (Option.some.inj (show some (("small" : Str), (2 : Int)) = some f from e)); exact ⟨_, _, rfl, rfl, Or.inr (.inr ⟨by decide +kernel, by decide +kernel, .inl ⟨smF (⟨8, c, u0, u1, u2⟩ : Sd).c 0, rfl, sm_le c 0, rfl⟩⟩)⟩
    | 2, e => cases (Option.some.inj (show some (("small" : Str), (3 : Int)) = some f from e)); exact ⟨_, _, rfl, rfl, Or.inr (.inr ⟨by decide +kernel, by decide +kernel, .inl ⟨smF (⟨8, c, u0, u1, u2⟩ : Sd).c 1, rfl, sm_le c 1, rfl⟩⟩)⟩
    | 3, e => cases (Option.some.inj (show some (("small" : Str), (4 : Int)) = some f from e)); exact ⟨_, _, rfl, rfl, Or.inr (.inr ⟨by decide +kernel, by decide +kernel, .inl ⟨smF (⟨8, c, u0, u1, u2⟩ : Sd).c 2, rfl, sm_le c 2, rfl⟩⟩)⟩
    | 4, e => cases (Option.some.inj (show some (("small" : Str), (5 : Int)) = some f from e)); exact ⟨_, _, rfl, rfl, Or.inr (.inr ⟨by decide +kernel, by decide +kernel, .inl ⟨smF (⟨8, c, u0, u1, u2⟩ : Sd).c 3, rfl, sm_le c 3, rfl⟩⟩)⟩
    | n + 5, e => cases e
  · rcases d with ⟨kd, c, u0, u1, u2⟩; cases (show kd = 9 from hk)
    intro j f e
    match j, e with
    | 0, e => cases (Option.some.inj (show some (("step" : Str), (1 : Int)) = some f from e)); exact ⟨_, _, rfl, rfl, Or.inl ⟨rfl, (⟨9, c, u0, u1, u2⟩ : Sd).u0, _, rfl, hu0, rfl⟩⟩
    | 1, e => cases (Option.some.inj (show some (("small" : Str), (2 : Int)) = some f from e)); exact ⟨_, _, rfl, rfl, Or.inr (.inr ⟨by decide +kernel, by decide +kernel, .inl ⟨smF (⟨9, c, u0, u1, u2⟩ : Sd).c 0, rfl, sm_le c 0, rfl⟩⟩)⟩
    | 2, e => cases (Option.some.inj (show some (("small" : Str), (3 : Int)) = some f from e)); exact ⟨_, _, rfl, rfl, Or.inr (.inr ⟨by decide +kernel, by decide +kernel, .inl ⟨smF (⟨9, c, u0, u1, u2⟩ : Sd).c 1, rfl, sm_le c 1, rfl⟩⟩)⟩
    | n + 3, e => cases e
  · rcases d with ⟨kd, c, u0, u1, u2⟩; cases (show kd = 10 from hk)
    intro j f e
    match j, e with
    | 0, e => cases (Option.some.inj (show some (("step" : Str), (1 : Int)) = some f from e)); exact ⟨_, _, rfl, rfl, Or.inl ⟨rfl, (⟨10, c, u0, u1, u2⟩ : Sd).u0, _, rfl, hu0, rfl⟩⟩
    | 1, e => cases (Option.some.inj (show some (("sides" : Str), (2 : Int)) = some f from e)); exact ⟨_, _, rfl, rfl, Or.inr (.inl ⟨rfl, ra, rowF (⟨10, c, u0, u1, u2⟩ : Sd).c, rfl, hr, smr, rfl⟩)⟩
    | n + 2, e => cases e
  · rcases d with ⟨kd, c, u0, u1, u2⟩; cases (show kd = 11 from hk)
    intro j f e
    match j, e with
    | 0, e => cases (Option.some.inj (show some (("step" : Str), (1 : Int)) = some f from e)); exact ⟨_, _, rfl, rfl, Or.inl ⟨rfl, (⟨11, c, u0, u1, u2⟩ : Sd).u0, _, rfl, hu0, rfl⟩⟩
    | 1, e => cases (Option.some.inj (show some (("step" : Str), (2 : Int)) = some f from e)); exact ⟨_, _, rfl, rfl, Or.inl ⟨rfl, (⟨11, c, u0, u1, u2⟩ : Sd).u1, _, rfl, hu1, rfl⟩⟩
    | 2, e => cases (Option.some.inj (show some (("small" : Str), (3 : Int)) = some f from e)); exact ⟨_, _, rfl, rfl, Or.inr (.inr ⟨by decide +kernel, by decide +kernel, .inl ⟨smF (⟨11, c, u0, u1, u2⟩ : Sd).c 0, rfl, sm_le c 0, rfl⟩⟩)⟩
    | n + 3, e => cases e
  · rcases d with ⟨kd, c, u0, u1, u2⟩; cases (show kd = 12 from hk)
    intro j f e
    match j, e with
    | 0, e => cases (Option.some.inj (show some (("step" : Str), (1 : Int)) = some f from e)); exact ⟨_, _, rfl, rfl, Or.inl ⟨rfl, (⟨12, c, u0, u1, u2⟩ : Sd).u0, _, rfl, hu0, rfl⟩⟩
    | 1, e => cases (Option.some.inj (show some (("step" : Str), (2 : Int)) = some f from e)); exact ⟨_, _, rfl, rfl, Or.inl ⟨rfl, (⟨12, c, u0, u1, u2⟩ : Sd).u1, _, rfl, hu1, rfl⟩⟩
    | n + 2, e => cases e
  · rcases d with ⟨kd, c, u0, u1, u2⟩; cases (show kd = 13 from hk)
    intro j f e
    match j, e with
    | 0, e => cases (Option.some.inj (show some (("word" : Str), (1 : Int)) = some f from e)); exact ⟨_, _, rfl, rfl, Or.inr (.inr ⟨by decide +kernel, by decide +kernel, .inr ⟨wordF (⟨13, c, u0, u1, u2⟩ : Sd).c, rfl, word_len c, rfl⟩⟩)⟩
    | 1, e => cases (Option.some.inj (show some (("step" : Str), (2 : Int)) = some f from e)); exact ⟨_, _, rfl, rfl, Or.inl ⟨rfl, (⟨13, c, u0, u1, u2⟩ : Sd).u0, _, rfl, hu0, rfl⟩⟩
    | 2, e => cases (Option.some.inj (show some (("small" : Str), (3 : Int)) = some f from e)); exact ⟨_, _, rfl, rfl, Or.inr (.inr ⟨by decide +kernel, by decide +kernel, .inl ⟨smF (⟨13, c, u0, u1, u2⟩ : Sd).c 0, rfl, sm_le c 0, rfl⟩⟩)⟩
    | n + 3, e => cases e
  · rcases d with ⟨kd, c, u0, u1, u2⟩; cases (show kd = 14 from hk)
    intro j f e
    match j, e with
    | 0, e => cases (Option.some.inj (show some (("word" : Str), (1 : Int)) = some f from e)); exact ⟨_, _, rfl, rfl, Or.inr (.inr ⟨by decide +kernel, by decide +kernel, .inr ⟨wordF (⟨14, c, u0, u1, u2⟩ : Sd).c, rfl, word_len c, rfl⟩⟩)⟩
    | 1, e => cases (Option.some.inj (show some (("step" : Str), (2 : Int)) = some f from e)); exact ⟨_, _, rfl, rfl, Or.inl ⟨rfl, (⟨14, c, u0, u1, u2⟩ : Sd).u0, _, rfl, hu0, rfl⟩⟩
    | 2, e => cases (Option.some.inj (show some (("small" : Str), (3 : Int)) = some f from e)); exact ⟨_, _, rfl, rfl, Or.inr (.inr ⟨by decide +kernel, by decide +kernel, .inl ⟨smF (⟨14, c, u0, u1, u2⟩ : Sd).c 0, rfl, sm_le c 0, rfl⟩⟩)⟩
    | n + 3, e => cases e
def LwOk (H : Hp) (nm : List Str) (kd : Nat) (k : Nat) (part : V) (ws : List Str) : Prop :=
  (∃ a row, part = .ref a ∧ H a = some (.tup (row.map V.int)) ∧ smR row ∧ ws = row.map sI) ∨ (∃ t, part = .str t ∧ t.length ≤ 100 ∧ ws = [t]) ∨ (∃ n : Int, part = .int n ∧ kd = 2 ∧ ws = []) ∨
  (∃ n : Int, part = .int n ∧ kd ≠ 2 ∧ (((k : Int) ∈ argsP kd ∧ ∃ (u : Nat) (x : Str), n = (u : Int) ∧ nm[u]? = some x ∧ ws = [x]) ∨ ((k : Int) ∉ argsP kd ∧ n.natAbs < 10 ^ 20 ∧ ws = [sI n])))
theorem law_at {H : Hp} {nm : List Str} {d : Sd} {ra : Addr} (ok : SdOk nm.length d) (hr : H ra = some (.tup ((rowF d.c).map V.int))) : ∀ (i : Nat), i + 1 < (stV d ra).length → ∃ x ws, (stV d ra)[i + 1]? = some x ∧ (lawL d nm)[i]? = some ws ∧ LwOk H nm d.kd (i + 1) x ws := by
  obtain ⟨hk, l0, l1, l2⟩ := ok
  have hu0 := getS l0
  have hu1 := getS l1
  have hu2 := getS l2
  have smr := row_sm d.c
  rcases (kd15 ‹d.kd < 15›) with hk | hk | hk | hk | hk | hk | hk | hk | hk | hk | hk | hk | hk | hk | hk
  · rcases d with ⟨kd, c, u0, u1, u2⟩; cases (show kd = 0 from hk)
    intro i hi
    match i, hi with
    | 0, _ => exact ⟨_, _, rfl, rfl, Or.inl ⟨ra, rowF c, rfl, hr, smr, rfl⟩⟩
    | n + 1, hi => exact absurd hi (by show ¬ n + 1 + 1 < 2; omega)
  · rcases d with ⟨kd, c, u0, u1, u2⟩; cases (show kd = 1 from hk)
    intro i hi
    match i, hi with
    | 0, _ => exact ⟨_, _, rfl, rfl, Or.inr (.inr (.inr ⟨bigF c, rfl, (show (1 : Nat) ≠ 2 by decide), .inr ⟨(show ((1 : Nat) : Int) ∉ argsP 1 by decide +kernel), big_le c, rfl⟩⟩))⟩
    | n + 1, hi => exact absurd hi (by show ¬ n + 1 + 1 < 2; omega)
  · rcases d with ⟨kd, c, u0, u1, u2⟩; cases (show kd = 2 from hk)
    intro i hi
    match i, hi with
    | 0, _ => exact ⟨_, _, rfl, rfl, Or.inl ⟨ra, rowF c, rfl, hr, smr, rfl⟩⟩
    | 1, _ => exact ⟨_, _, rfl, rfl, Or.inr (.inr (.inl ⟨smF c 0, rfl, rfl, rfl⟩))⟩
    | n + 2, hi => exact absurd hi (by show ¬ n + 2 + 1 < 3; omega)
  · rcases d with ⟨kd, c, u0, u1, u2⟩; cases (show kd = 3 from hk)
    intro i hi
    match i, hi with
    | 0, _ => exact ⟨_, _, rfl, rfl, Or.inr (.inl ⟨wordF c, rfl, word_len c, rfl⟩)⟩
    | 1, _ => exact ⟨_, _, rfl, rfl, Or.inr (.inr (.inr ⟨(u0 : Int), rfl, (show (3 : Nat) ≠ 2 by decide), .inl ⟨(show ((2 : Nat) : Int) ∈ argsP 3 by decide +kernel), u0, _, rfl, hu0, rfl⟩⟩))⟩
    | n + 2, hi => exact absurd hi (by show ¬ n + 2 + 1 < 3; omega)
  · rcases d with ⟨kd, c, u0, u1, u2⟩; cases (show kd = 4 from hk)
    intro i hi
    match i, hi with
    | 0, _ => exact ⟨_, _, rfl, rfl, Or.inr (.inl ⟨wordF c, rfl, word_len c, rfl⟩)⟩
    | 1, _ => exact ⟨_, _, rfl, rfl, Or.inr (.inr (.inr ⟨(u0 : Int), rfl, (show (4 : Nat) ≠ 2 by decide), .inl ⟨(show ((2 : Nat) : Int) ∈ argsP 4 by decide +kernel), u0, _, rfl, hu0, rfl⟩⟩))⟩
    | 2, _ => exact ⟨_, _, rfl, rfl, Or.inr (.inr (.inr ⟨(u1 : Int), rfl, (show (4 : Nat) ≠ 2 by decide), .inl ⟨(show ((3 : Nat) : Int) ∈ argsP 4 by decide +kernel), u1, _, rfl, hu1, rfl⟩⟩))⟩
    | n + 3, hi => exact absurd hi (by show ¬ n + 3 + 1 < 4; omega)
  · rcases d with ⟨kd, c, u0, u1, u2⟩; cases (show kd = 5 from hk)
    intro i hi
    match i, hi with
    | 0, _ => exact ⟨_, _, rfl, rfl, Or.inr (.inr (.inr ⟨(u0 : Int), rfl, (show (5 : Nat) ≠ 2 by decide), .inl ⟨(show ((1 : Nat) : Int) ∈ argsP 5 by decide +kernel), u0, _, rfl, hu0, rfl⟩⟩))⟩
    | 1, _ => exact ⟨_, _, rfl, rfl, Or.inr (.inr (.inr ⟨(u1 : Int), rfl, (show (5 : Nat) ≠ 2 by decide), .inl ⟨(show ((2 : Nat) : Int) ∈ argsP 5 by decide +kernel), u1, _, rfl, hu1, rfl⟩⟩))⟩
    | 2, _ => exact ⟨_, _, rfl, rfl, Or.inr (.inr (.inr ⟨(u2 : Int), rfl, (show (5 : Nat) ≠ 2 by decide), .inl ⟨(show ((3 : Nat) : Int) ∈ argsP 5 by decide +kernel), u2, _, rfl, hu2, rfl⟩⟩))⟩
    | n + 3, hi => exact absurd hi (by show ¬ n + 3 + 1 < 4; omega)
  · rcases d with ⟨kd, c, u0, u1, u2⟩; cases (show kd = 6 from hk)
    intro i hi
    match i, hi with
    | 0, _ => exact ⟨_, _, rfl, rfl, Or.inr (.inr (.inr ⟨(u0 : Int), rfl, (show (6 : Nat) ≠ 2 by decide), .inl ⟨(show ((1 : Nat) : Int) ∈ argsP 6 by decide +kernel), u0, _, rfl, hu0, rfl⟩⟩))⟩
    | 1, _ => exact ⟨_, _, rfl, rfl, Or.inl ⟨ra, rowF c, rfl, hr, smr, rfl⟩⟩
    | n + 2, hi => exact absurd hi (by show ¬ n + 2 + 1 < 3; omega)
  · rcases d with ⟨kd, c, u0, u1, u2⟩; cases (show kd = 7 from hk)
    intro i hi
    match i, hi with
    | 0, _ => exact ⟨_, _, rfl, rfl, Or.inr (.inr (.inr ⟨(u0 : Int), rfl, (show (7 : Nat) ≠ 2 by decide), .inl ⟨(show ((1 : Nat) : Int) ∈ argsP 7 by decide +kernel), u0, _, rfl, hu0, rfl⟩⟩))⟩
    | 1, _ => exact ⟨_, _, rfl, rfl, Or.inr (.inr (.inr ⟨smF c 0, rfl, (show (7 : Nat) ≠ 2 by decide), .inr ⟨(show ((2 : Nat) : Int) ∉ argsP 7 by decide +kernel), sm_le c 0, rfl⟩⟩))⟩
    | n + 2, hi => exact absurd hi (by show ¬ n + 2 + 1 < 3; omega)
  · rcases d with ⟨kd, c, u0, u1, u2⟩; cases (show kd = 8 from hk)
    intro i hi
    match i, hi with
    | 0, _ => exact ⟨_, _, rfl, rfl, Or.inr (.inr (.inr ⟨(u0 : Int), rfl, (show (8 : Nat) ≠ 2 by decide), .inl ⟨(show ((1 : Nat) : Int) ∈ argsP 8 by decide +kernel), u0, _, rfl, hu0, rfl⟩⟩))⟩
    | 1, _ => exact ⟨_, _, rfl, rfl, Or.inr (.inr (.inr ⟨smF c 0, rfl, (show (8 : Nat) ≠ 2 by decide), .inr ⟨(show ((2 : Nat) : Int) ∉ argsP 8 by decide +kernel), sm_le c 0, rfl⟩⟩))⟩
    | 2, _ => exact ⟨_, _, rfl, rfl, Or.inr (.inr (.inr ⟨smF c 1, rfl, (show (8 : Nat) ≠ 2 by decide), .inr ⟨(show ((3 : Nat) : Int) ∉ argsP 8 by decide +kernel), sm_le c 1, rfl⟩⟩))⟩
    | 3, _ => exact ⟨_, _, rfl, rfl, Or.inr (.inr (.inr ⟨smF c 2, rfl, (show (8 : Nat) ≠ 2 by decide), .inr ⟨(show ((4 : Nat) : Int) ∉ argsP 8 by decide +kernel), sm_le c 2, rfl⟩⟩))⟩
    | 4, _ => exact ⟨_, _, rfl, rfl, Or.inr (.inr (.inr ⟨smF c 3, rfl, (show (8 : Nat) ≠ 2 by decide), .inr ⟨(show ((5 : Nat) : Int) ∉ argsP 8 by decide +kernel), sm_le c 3, rfl⟩⟩))⟩
    | n + 5, hi => exact absurd hi (by show ¬ n + 5 + 1 < 6; omega)
  · rcases d with ⟨kd, c, u0, u1, u2⟩; cases (show kd = 9 from hk)
    intro i hi
    match i, hi with
    | 0, _ => exact ⟨_, _, rfl, rfl, Or.inr (.inr (.inr ⟨(u0 : Int), rfl, (show (9 : Nat) ≠ 2 by decide), .inl ⟨(show ((1 : Nat) : Int) ∈ argsP 9 by decide +kernel), u0, _, rfl, hu0, rfl⟩⟩))⟩
    | 1, _ => exact ⟨_, _, rfl, rfl, Or.inr (.inr (.inr ⟨smF c 0, rfl, (show (9 : Nat) ≠ 2 by decide), .inr ⟨(show ((2 : Nat) : Int) ∉ argsP 9 by decide +kernel), sm_le c 0, rfl⟩⟩))⟩
    | 2, _ => exact ⟨_, _, rfl, rfl, Or.inr (.inr (.inr ⟨smF c 1, rfl, (show (9 : Nat) ≠ 2 by decide), .inr ⟨(show ((3 : Nat) : Int) ∉ argsP 9 by decide +kernel), sm_le c 1, rfl⟩⟩))⟩
    | n + 3, hi => exact absurd hi (by show ¬ n + 3 + 1 < 4; omega)
  · rcases d with ⟨kd, c, u0, u1, u2⟩; cases (show kd = 10 from hk)
    intro i hi
    match i, hi with
    | 0, _ => exact ⟨_, _, rfl, rfl, Or.inr (.inr (.inr ⟨(u0 : Int), rfl, (show (10 : Nat) ≠ 2 by decide), .inl ⟨(show ((1 : Nat) : Int) ∈ argsP 10 by decide +kernel), u0, _, rfl, hu0, rfl⟩⟩))⟩
    | 1, _ => exact ⟨_, _, rfl, rfl, Or.inl ⟨ra, rowF c, rfl, hr, smr, rfl⟩⟩
    | n + 2, hi => exact absurd hi (by show ¬ n + 2 + 1 < 3; omega)
  · rcases d with ⟨kd, c, u0, u1, u2⟩; cases (show kd = 11 from hk)
    intro i hi
    match i, hi with
    | 0, _ => exact ⟨_, _, rfl, rfl, Or.inr (.inr (.inr ⟨(u0 : Int), rfl, (show (11 : Nat) ≠ 2 by decide), .inl ⟨(show ((1 : Nat) : Int) ∈ argsP 11 by decide +kernel), u0, _, rfl, hu0, rfl⟩⟩))⟩
    | 1, _ => exact ⟨_, _, rfl, rfl, Or.inr (.inr (.inr ⟨(u1 : Int), rfl, (show (11 : Nat) ≠ 2 by decide), .inl ⟨(show ((2 : Nat) : Int) ∈ argsP 11 by decide +kernel), u1, _, rfl, hu1, rfl⟩⟩))⟩
    | 2, _ => exact ⟨_, _, rfl, rfl, Or.inr (.inr (.inr ⟨smF c 0, rfl, (show (11 : Nat) ≠ 2 by decide), .inr ⟨(show ((3 : Nat) : Int) ∉ argsP 11 by decide +kernel), sm_le c 0, rfl⟩⟩))⟩
    | n + 3, hi => exact absurd hi (by show ¬ n + 3 + 1 < 4; omega)
  · rcases d with ⟨kd, c, u0, u1, u2⟩; cases (show kd = 12 from hk)
    intro i hi
    match i, hi with
    | 0, _ => exact ⟨_, _, rfl, rfl, Or.inr (.inr (.inr ⟨(u0 : Int), rfl, (show (12 : Nat) ≠ 2 by decide), .inl ⟨(show ((1 : Nat) : Int) ∈ argsP 12 by decide +kernel), u0, _, rfl, hu0, rfl⟩⟩))⟩
    | 1, _ => exact ⟨_, _, rfl, rfl, Or.inr (.inr (.inr ⟨(u1 : Int), rfl, (show (12 : Nat) ≠ 2 by decide), .inl ⟨(show ((2 : Nat) : Int) ∈ argsP 12 by decide +kernel), u1, _, rfl, hu1, rfl⟩⟩))⟩
    | n + 2, hi => exact absurd hi (by show ¬ n + 2 + 1 < 3; omega)
  · rcases d with ⟨kd, c, u0, u1, u2⟩; cases (show kd = 13 from hk)
    intro i hi
    match i, hi with
    | 0, _ => exact ⟨_, _, rfl, rfl, Or.inr (.inl ⟨wordF c, rfl, word_len c, rfl⟩)⟩
    | 1, _ => exact ⟨_, _, rfl, rfl, Or.inr (.inr (.inr ⟨(u0 : Int), rfl, (show (13 : Nat) ≠ 2 by decide), .inl ⟨(show ((2 : Nat) : Int) ∈ argsP 13 by decide +kernel), u0, _, rfl, hu0, rfl⟩⟩))⟩
    | 2, _ => exact ⟨_, _, rfl, rfl, Or.inr (.inr (.inr ⟨smF c 0, rfl, (show (13 : Nat) ≠ 2 by decide), .inr ⟨(show ((3 : Nat) : Int) ∉ argsP 13 by decide +kernel), sm_le c 0, rfl⟩⟩))⟩
    | n + 3, hi => exact absurd hi (by show ¬ n + 3 + 1 < 4; omega)
  · rcases d with ⟨kd, c, u0, u1, u2⟩; cases (show kd = 14 from hk)
    intro i hi
    match i, hi with
    | 0, _ => exact ⟨_, _, rfl, rfl, Or.inr (.inl ⟨wordF c, rfl, word_len c, rfl⟩)⟩
    | 1, _ => exact ⟨_, _, rfl, rfl, Or.inr (.inr (.inr ⟨(u0 : Int), rfl, (show (14 : Nat) ≠ 2 by decide), .inl ⟨(show ((2 : Nat) : Int) ∈ argsP 14 by decide +kernel), u0, _, rfl, hu0, rfl⟩⟩))⟩
    | 2, _ => exact ⟨_, _, rfl, rfl, Or.inr (.inr (.inr ⟨smF c 0, rfl, (show (14 : Nat) ≠ 2 by decide), .inr ⟨(show ((3 : Nat) : Int) ∉ argsP 14 by decide +kernel), sm_le c 0, rfl⟩⟩))⟩
    | n + 3, hi => exact absurd hi (by show ¬ n + 3 + 1 < 4; omega)
theorem PwOk.len {H : Hp} {nm : List Str} {kind : Str} {part : V} {ws : List Str} (h : PwOk H nm kind part ws) (n : nmOk nm) : ws.length ≤ 8 ∧ ∀ w ∈ ws, w.length ≤ 100 := by
  rcases h with ⟨_, u, x, _, e, rfl⟩ | ⟨_, a, row, _, _, r, rfl⟩ | ⟨_, _, ⟨m, _, b, rfl⟩ | ⟨t, _, b, rfl⟩⟩
  · refine ⟨by simp, fun w hw => ?_⟩
    cases List.mem_singleton.mp hw
    have := n.2 x (List.mem_of_getElem? e); omega
  · refine ⟨by rw [List.length_map]; exact r.1, fun w hw => ?_⟩
    obtain ⟨m, hm, rfl⟩ := List.mem_map.mp hw
    have := r.2 m hm
    exact sI_len (by omega)
  · exact ⟨by simp, fun w hw => by cases List.mem_singleton.mp hw; exact sI_len b⟩
  · exact ⟨by simp, fun w hw => by cases List.mem_singleton.mp hw; exact b⟩
theorem parts_n {d : Sd} {nm : List Str} (h : d.kd < 15) : (partsL d nm).length = ((formsL.getD d.kd ("", [])).2).length := by
  rcases d with ⟨kd, c, u0, u1, u2⟩
  exact below15 (P := fun kd => (partsL ⟨kd, c, u0, u1, u2⟩ nm).length = ((formsL.getD kd ("", [])).2).length) h rfl rfl rfl rfl rfl rfl rfl rfl rfl rfl rfl rfl rfl rfl rfl
theorem law_n {d : Sd} {nm : List Str} {ra : Addr} (h : d.kd < 15) : (lawL d nm).length + 1 = (stV d ra).length := by
  rcases d with ⟨kd, c, u0, u1, u2⟩
  exact below15 (P := fun kd => (lawL ⟨kd, c, u0, u1, u2⟩ nm).length + 1 = (stV ⟨kd, c, u0, u1, u2⟩ ra).length) h rfl rfl rfl rfl rfl rfl rfl rfl rfl rfl rfl rfl rfl rfl rfl
def preL (d : Sd) : List Str := if d.kd = 2 then [sI (smF d.c 0)] else []
theorem law_eq {d : Sd} {nm : List Str} (h : d.kd < 15) (n : d.kd ≠ 2) : lawL d nm = partsL d nm := by
  rcases d with ⟨kd, c, u0, u1, u2⟩
  exact below15 (P := fun kd => kd ≠ 2 → lawL ⟨kd, c, u0, u1, u2⟩ nm = partsL ⟨kd, c, u0, u1, u2⟩ nm) h (fun _ => rfl) (fun _ => rfl) (fun z => absurd rfl z) (fun _ => rfl) (fun _ => rfl) (fun _ => rfl) (fun _ => rfl) (fun _ => rfl) (fun _ => rfl) (fun _ => rfl) (fun _ => rfl) (fun _ => rfl) (fun _ => rfl) (fun _ => rfl) (fun _ => rfl) n
theorem law_words {d : Sd} {nm : List Str} (h : d.kd < 15) : preL d ++ (lawL d nm).flatten = wordsF d nm := by
  by_cases c : d.kd = 2
  · rcases d with ⟨kd, c0, u0, u1, u2⟩
    cases (show kd = 2 from c)
    unfold preL wordsF lawL partsL
    generalize sI (smF c0 0) = z
    generalize (rowF c0).map sI = r
    simp
  · unfold preL wordsF
    rw [if_neg c, law_eq h c, List.nil_append]
theorem flat_snoc {ls : List (List Str)} {i : Nat} {ws : List Str} (h : ls[i]? = some ws) : (ls.take (i + 1)).flatten = (ls.take i).flatten ++ ws := by
  rw [List.take_add_one, h, List.flatten_append]; simp
theorem cnt8 : ∀ (ls : List (List Str)), (∀ l ∈ ls, l.length ≤ 8) → ls.flatten.length ≤ 8 * ls.length := by
  intro ls
  induction ls with
  | nil => intro _; simp
  | cons l ls ih => intro h; have := ih fun x hx => h x (List.mem_cons_of_mem _ hx); have := h l (List.mem_cons_self ..); simp only [List.flatten_cons, List.length_append, List.length_cons]; omega
theorem flat_few {H : Hp} {nm : List Str} {d : Sd} {ra : Addr} (ok : SdOk nm.length d) (n : nmOk nm) (hr : H ra = some (.tup ((rowF d.c).map V.int))) (i : Nat) : ((partsL d nm).take i).flatten.length ≤ 40 := by
  have c8 := cnt8 ((partsL d nm).take i) fun ws h1 => by
    obtain ⟨j, hj⟩ := List.getElem?_of_mem (List.mem_of_mem_take h1)
    have jl : j < ((formsL.getD d.kd ("", [])).2).length := by rw [← parts_n ok.1 (nm := nm)]; exact (List.getElem?_eq_some_iff.mp hj).1
    obtain ⟨x, ws', _, e2, pw⟩ := part_at (H := H) ok hr j _ (List.getElem?_eq_getElem jl)
    rw [hj] at e2; cases e2
    exact (pw.len n).1
  have f5 := forms_len (i := d.kd)
  have l := List.length_take_le i (partsL d nm)
  have l2 : ((partsL d nm).take i).length ≤ (partsL d nm).length := by rw [List.length_take]; omega
  rw [parts_n ok.1] at l2
  omega
theorem lflat_few {H : Hp} {nm : List Str} {d : Sd} {ra : Addr} (ok : SdOk nm.length d) (n : nmOk nm) (hr : H ra = some (.tup ((rowF d.c).map V.int))) (i : Nat) : ((lawL d nm).take i).flatten.length ≤ 40 := by
  by_cases c : d.kd = 2
  · have e : ∀ k, ((lawL d nm).take k).flatten.length ≤ 8 * 2 := fun k => by
      have z : lawL d nm = [(rowF d.c).map sI, []] := by rcases d with ⟨kd, c0, u0, u1, u2⟩; cases (show kd = 2 from c); rfl
      rw [z]
      refine Nat.le_trans (cnt8 _ fun l hl => ?_) (Nat.mul_le_mul_left _ (List.length_take_le' ..))
      rcases List.mem_cons.mp (List.mem_of_mem_take hl) with rfl | hl
      · rw [List.length_map]; exact (row_sm d.c).1
      · cases List.mem_singleton.mp hl; exact Nat.zero_le _
    exact Nat.le_trans (e i) (by decide)
  · rw [law_eq ok.1 c]; exact flat_few ok n hr i
theorem tot_words {H : Hp} {nm : List Str} {d : Sd} {ra : Addr} {a b e : Str} (ok : SdOk nm.length d) (n : nmOk nm) (hr : H ra = some (.tup ((rowF d.c).map V.int))) (ha : a.length ≤ 100) (hb : b.length ≤ 100) (he : e.length ≤ 100) : totS " " ([a, b, e] ++ wordsF d nm) ≤ 5000 := by
  have one : (" " : Str).length = 1 := by decide +kernel
  have all : ∀ w ∈ wordsF d nm, w.length ≤ 100 := fun w hw => by
    obtain ⟨ws, h1, h2⟩ := List.mem_flatten.mp hw
    obtain ⟨j, hj⟩ := List.getElem?_of_mem h1
    have jl : j < ((formsL.getD d.kd ("", [])).2).length := by rw [← parts_n ok.1 (nm := nm)]; exact (List.getElem?_eq_some_iff.mp hj).1
    obtain ⟨x, ws', _, e2, pw⟩ := part_at (H := H) ok hr j _ (List.getElem?_eq_getElem jl)
    rw [hj] at e2; cases e2
    exact (pw.len n).2 w h2
  have cnt : ∀ ls : List (List Str), (∀ l ∈ ls, l.length ≤ 8) → ls.flatten.length ≤ 8 * ls.length := by
    intro ls
    induction ls with
    | nil => intro _; simp
    | cons l ls ih => intro h; have := ih fun x hx => h x (List.mem_cons_of_mem _ hx); have := h l (List.mem_cons_self ..); simp only [List.flatten_cons, List.length_append, List.length_cons]; omega
  have c8 : (wordsF d nm).length ≤ 8 * (partsL d nm).length := cnt _ fun ws h1 => by
    obtain ⟨j, hj⟩ := List.getElem?_of_mem h1
    have jl : j < ((formsL.getD d.kd ("", [])).2).length := by rw [← parts_n ok.1 (nm := nm)]; exact (List.getElem?_eq_some_iff.mp hj).1
    obtain ⟨x, ws', _, e2, pw⟩ := part_at (H := H) ok hr j _ (List.getElem?_eq_getElem jl)
    rw [hj] at e2; cases e2
    exact (pw.len n).1
  rw [parts_n ok.1] at c8
  have f5 := forms_len (i := d.kd)
  have t := tot_le (z := " ") all
  rw [one] at t
  have t2 : (100 + 1) * (wordsF d nm).length ≤ 101 * 40 := Nat.mul_le_mul_left _ (by omega)
  rw [tot_app, tot_cons, tot_cons, tot_cons, one]
  have : totS " " [] = 0 := rfl
  omega
theorem kind_two {i : Nat} (h : i < 15) (e : kindS i = Str.ofString "count") : i = 2 := by
  have z : ∀ j : Fin 15, kindS j.val = Str.ofString "count" → j.val = 2 := by decide +kernel
  exact z ⟨i, h⟩ e
theorem inV_ints (n : Int) : ∀ (ns : List Int), inV (V.int n) (ns.map V.int) = decide (n ∈ ns)
  | [] => by simp [inV]
  | m :: ns => by
    have ih := inV_ints n ns
    show (m == n || inV (V.int n) (ns.map V.int)) = decide (n ∈ m :: ns)
    rw [ih]
    by_cases e : n = m
    · subst e; simp
    · have e' : (m == n) = false := by simpa using fun z => e z.symm
      rw [e']; simp [e]
def plainF (k : Nat) : Str := if k < 26 then ⟨#[97 + k]⟩ else (⟨#[97 + (k / 26 - 1)]⟩ : Str) ++ ⟨#[97 + k % 26]⟩
theorem abc_k {k : Nat} (h : k < 26) : ("abcdefghijklmnopqrstuvwxyz" : Str).cps[k]? = some (97 + k) := abc_at ⟨k, h⟩
theorem abc_i {k : Int} (h0 : 0 ≤ k) (h : k < 26) : ("abcdefghijklmnopqrstuvwxyz" : Str).cps[k.toNat]? = some (97 + k.toNat) := abc_k (by omega)
theorem two_len (x y : Nat) : ((⟨#[x]⟩ : Str) ++ ⟨#[y]⟩).length = 2 := by rw [strLen_append]; rfl
def ProgAt (H : Hp) (p : Addr) (ds : List Sd) (os : List Nat) : Prop := ∃ st ou as, H p = some (.tup [.ref st, .ref ou]) ∧ H st = some (.tup (as.map V.ref)) ∧ SdsAt H ds as ∧ H ou = some (.tup (os.map fun (o : Nat) => V.int (o : Int))) ∧ 1 ≤ ds.length ∧ ds.length ≤ 40 ∧ (∀ d ∈ ds, SdOk ds.length d) ∧ 1 ≤ os.length ∧ os.length ≤ 8 ∧ ∀ o ∈ os, o < ds.length
theorem ProgAt.same {H H' : Hp} {p : Addr} {ds : List Sd} {os : List Nat} (h : ProgAt H p ds os) (s : Same H H') : ProgAt H' p ds os := by
  obtain ⟨st, ou, as, h1, h2, h3, h4, h5⟩ := h
  exact ⟨st, ou, as, s _ _ h1, s _ _ h2, h3.same s, s _ _ h4, h5⟩
def rowsF (ds : List Sd) (nm : List Str) (n : Nat) : List Str := (List.range n).map fun i => rowS (ds.getD i ⟨0, 0, 0, 0, 0⟩) (nm.getD i "") nm
def outsF (os : List Nat) (nm : List Str) : List Str := os.map fun o => nm.getD o ""
def outS (os : List Nat) (nm : List Str) : Str := Builtin.Str.glued " " ("out" :: outsF os nm)
def textL (ds : List Sd) (os : List Nat) (nm : List Str) : List Str := rowsF ds nm ds.length ++ [outS os nm]
theorem rows_snoc (ds : List Sd) (nm : List Str) (n : Nat) : rowsF ds nm (n + 1) = rowsF ds nm n ++ [rowS (ds.getD n ⟨0, 0, 0, 0, 0⟩) (nm.getD n "") nm] := by
  unfold rowsF; rw [List.range_succ, List.map_append]; rfl
theorem rows_len (ds : List Sd) (nm : List Str) (n : Nat) : (rowsF ds nm n).length = n := by simp [rowsF]
theorem glued_out (x : Str) (r : List Str) : (Str.ofString "out ") ++ Builtin.Str.glued " " (x :: r) = Builtin.Str.glued " " ("out" :: x :: r) := by
  have all : ∀ (r : List Str) (a b : Array Nat), b ++ r.foldl (fun acc p => acc ++ (" " : Str).cps ++ p.cps) a = r.foldl (fun acc p => acc ++ (" " : Str).cps ++ p.cps) (b ++ a) := by
    intro r
    induction r with
    | nil => intro a b; rfl
    | cons p r ih => intro a b; rw [List.foldl_cons, List.foldl_cons, ih]; simp only [Array.append_assoc]
  show (⟨(Str.ofString "out ").cps ++ r.foldl (fun acc p => acc ++ (" " : Str).cps ++ p.cps) x.cps⟩ : Str) = ⟨(x :: r).foldl (fun acc p => acc ++ (" " : Str).cps ++ p.cps) ("out" : Str).cps⟩
  rw [all, List.foldl_cons]
  have e : (Str.ofString "out ").cps = ("out" : Str).cps ++ (" " : Str).cps := by decide +kernel
  rw [e]
theorem kindS_len {i : Nat} (h : i < 15) : (kindS i).length ≤ 100 := by
  have z : ∀ j : Fin 15, (kindS j.val).length ≤ 100 := by decide +kernel
  exact z ⟨i, h⟩
theorem row_len {H : Hp} {nm : List Str} {d : Sd} {a : Addr} {name : Str} (ok : SdOk nm.length d) (n : nmOk nm) (h : SdAt H d a) (hn : name.length ≤ 20) : (rowS d name nm).length ≤ 5000 := by
  obtain ⟨ra, _, hr⟩ := h
  exact Nat.le_trans (glued_len _ _) (tot_words ok n hr (by omega) (by decide +kernel) (kindS_len ok.1))
theorem out_len {nm : List Str} {os : List Nat} (n : nmOk nm) (o8 : os.length ≤ 8) (ob : ∀ o ∈ os, o < nm.length) : totS " " ("out" :: outsF os nm) ≤ 300 := by
  have one : (" " : Str).length = 1 := by decide +kernel
  have o3 : ("out" : Str).length = 3 := by decide +kernel
  have t := tot_le (z := " ") (ys := outsF os nm) (k := 20) fun x hx => by
    obtain ⟨o, ho, rfl⟩ := List.mem_map.mp hx
    exact n.2 _ (List.mem_of_getElem? (getS (ob o ho)))
  have on : (outsF os nm).length = os.length := by simp [outsF]
  rw [one, on] at t
  rw [tot_cons, one, o3]
  omega
theorem text_tot {H : Hp} {ds : List Sd} {os : List Nat} {nm : List Str} {as : List Addr} (sd : SdsAt H ds as) (d40 : ds.length ≤ 40) (dk : ∀ d ∈ ds, SdOk ds.length d) (nl : nm.length = ds.length) (n : nmOk nm) (o8 : os.length ≤ 8) (ob : ∀ o ∈ os, o < ds.length) : totS "
" (textL ds os nm) ≤ 1000000 := by
  have one : ("
" : Str).length = 1 := by decide +kernel
  have t := tot_le (z := "
") (ys := textL ds os nm) (k := 5000) fun x hx => by
    rcases List.mem_append.mp hx with hx | hx
    · obtain ⟨i, hi, rfl⟩ := List.mem_map.mp hx
      have hi := List.mem_range.mp hi
      have gi : ds[i]? = some (ds.getD i ⟨0, 0, 0, 0, 0⟩) := by rw [List.getD_eq_getElem?_getD, List.getElem?_eq_getElem hi]; rfl
      obtain ⟨b, _, db⟩ := sd.2 i _ gi
      exact row_len (by rw [nl]; exact dk _ (List.mem_of_getElem? gi)) n db (n.2 _ (List.mem_of_getElem? (getS (by omega))))
    · cases List.mem_singleton.mp hx
      exact Nat.le_trans (glued_len _ _) (Nat.le_trans (out_len n o8 fun o ho => by rw [nl]; exact ob o ho) (by decide))
  have tn : (textL ds os nm).length ≤ 41 := by unfold textL; rw [List.length_append, rows_len]; simp; omega
  rw [one] at t
  have : (5000 + 1) * (textL ds os nm).length ≤ 5001 * 41 := Nat.mul_le_mul_left _ tn
  omega
def k19 : List Str := ["out", "in", "num", "count", "each", "pair", "pick", "turn", "flip", "cut", "spread", "lay", "join", "fetch", "fold", "run", "add", "neg", "xor"]
abbrev ABC : Str := "abcdefghijklmnopqrstuvwxyz"
theorem fm_range : ∀ (n : Nat) (r : List Nat), n ≤ r.length → (List.range n).filterMap (fun k => r[k]?) = r.take n
  | 0, _, _ => rfl
  | n + 1, r, h => by
    rw [List.range_succ, List.filterMap_append, fm_range n r (by omega), List.take_add_one, List.getElem?_eq_getElem (by omega)]
    simp [List.filterMap, List.getElem?_eq_getElem (show n < r.length by omega)]
theorem slice_1 (x : Str) : (Txt.slice x (some 1) none).cps.toList = x.cps.toList.drop 1 := by
  obtain ⟨a⟩ := x
  obtain ⟨L⟩ := a
  unfold Txt.slice
  cases L with
  | nil => rfl
  | cons c r =>
    have e : Builtin.Str.strSliceIndices (some 1) none 1 (r.length + 1) = (List.range r.length).map fun k => 1 + k := by
      unfold Builtin.Str.strSliceIndices sliceRange
      simp only [show (1 : Int) > 0 by decide, show ¬ (1 : Int) < 0 by decide, if_true, if_false, Int.ediv_one]
      have m : max 0 (min (1 : Int) ((r.length + 1 : Nat) : Int)) = 1 := by omega
      rw [m]
      have n : (if (1 : Int) < ((r.length + 1 : Nat) : Int) then (((r.length + 1 : Nat) : Int) - 1 + 1 - 1) else 0).toNat = r.length := by split <;> omega
      rw [n]
      exact List.map_congr_left fun k _ => by omega
    have e : Builtin.Str.strSliceIndices (some 1) none 1 (Str.length ⟨⟨c :: r⟩⟩) = (List.range r.length).map fun k => 1 + k := e
    rw [e, if_neg]
    · show (List.filterMap (fun k => (⟨c :: r⟩ : Array Nat)[k]?) ((List.range r.length).map fun k => 1 + k)) = r
      rw [List.filterMap_map]
      have z : (fun k => (⟨c :: r⟩ : Array Nat)[k]?) ∘ (fun k => 1 + k) = fun k => r[k]? := by
        funext k
        show (⟨c :: r⟩ : Array Nat)[1 + k]? = r[k]?
        rw [Nat.add_comm, List.getElem?_toArray, List.getElem?_cons_succ]
      rw [z, fm_range _ _ (Nat.le_refl _), List.take_length]
    · show ¬ ((1 : Int) == 1 && ((List.range r.length).map fun k => 1 + k).length == (c :: r).length) = true
      rw [List.length_map, List.length_range]
      simp
theorem starts_is (x : Str) : startsB x (Str.ofString "-") = true ↔ x.cps.toList.head? = some 45 := by
  obtain ⟨a⟩ := x
  obtain ⟨L⟩ := a
  have e : (Str.ofString "-") = ⟨⟨[45]⟩⟩ := by decide +kernel
  rw [e]
  cases L with
  | nil => constructor <;> intro h <;> exact absurd h (by decide)
  | cons c r =>
    have z : startsB ⟨⟨c :: r⟩⟩ ⟨⟨[45]⟩⟩ = (c == 45) := by
      unfold startsB Builtin.Str.subAt
      show (decide (0 + 1 ≤ r.length + 1) && ((⟨c :: r⟩ : Array Nat).extract 0 (0 + 1) == ⟨[45]⟩)) = _
      have y : (⟨c :: r⟩ : Array Nat).extract 0 (0 + 1) = ⟨[c]⟩ := by
        apply Array.ext'
        simp
      rw [y, decide_eq_true (by omega), Bool.true_and]
      show ([c] == [45]) = (c == 45)
      simp
    rw [z]
    simp
theorem eq_is (x : Str) : x = Str.ofString "-0" ↔ x.cps.toList = [45, 48] := by
  have e : (Str.ofString "-0").cps.toList = [45, 48] := by decide +kernel
  constructor
  · rintro rfl; exact e
  · intro h
    obtain ⟨a⟩ := x
    rw [show Str.ofString "-0" = ⟨⟨[45, 48]⟩⟩ by decide +kernel]
    congr 1
    exact Array.ext' h
theorem zero_is (c : Nat) : (⟨#[c]⟩ : Str) = Str.ofString "0" ↔ c = 48 := by
  rw [show Str.ofString "0" = ⟨#[48]⟩ by decide +kernel]
  constructor
  · intro h; have := congrArg (fun s : Str => s.cps.toList) h; simpa using this
  · rintro rfl; rfl
theorem low_drop {x : Str} (h : lowS x) : lowS (Txt.slice x (some 1) none) := by
  refine ⟨Nat.le_trans (Txt.slice_le x (some 1) none) h.1, fun c hc => ?_⟩
  rw [slice_1] at hc
  exact h.2 c (List.mem_of_mem_drop hc)
def smlI (n : Int) : Option Int := if 0 ≤ n ∧ n ≤ 999 then some n else none
theorem optN_is (o : Option Nat) : optN o = optV (o.map fun n => (n : Int)) := by cases o <;> rfl
theorem txt_num {n : Int} (h : n.natAbs < 10 ^ 20) : numI (txtL n) = rngI n := by
  unfold txtL
  by_cases c : 0 ≤ n
  · rw [if_pos c, num_pos (by omega), show ((n.toNat : Nat) : Int) = n by omega]
  · rw [if_neg c, num_neg (by omega) (by omega), show -(((-n).toNat : Nat) : Int) = n by omega]
theorem txt_sml (n : Int) : (figI (txtL n) 3).map (fun n => (n : Int)) = smlI n := by
  unfold txtL smlI
  by_cases c : 0 ≤ n
  · rw [if_pos c, show (3 : Int) = ((2 + 1 : Nat) : Int) from rfl, fig_D]
    by_cases d : n.toNat < 10 ^ (2 + 1)
    · rw [if_pos d, if_pos (by omega)]; show some ((n.toNat : Nat) : Int) = some n; rw [show ((n.toNat : Nat) : Int) = n by omega]
    · rw [if_neg d, if_neg (by omega)]; rfl
  · rw [if_neg c, fig_bad (c := 45) (List.mem_cons_self ..) (by decide), if_neg (by omega)]; rfl
def nameOk (x : Str) : Prop := 1 ≤ x.cps.toList.length ∧ x.cps.toList.length ≤ 8 ∧ ∀ c ∈ x.cps.toList, 97 ≤ c ∧ c ≤ 122
def nmGood (nm : List Str) : Prop := (∀ x ∈ nm, nameOk x) ∧ ∀ i j, i < nm.length → j < nm.length → nm.getD i "" = nm.getD j "" → i = j
theorem str_len (x : Str) : x.cps.toList.length = x.length := Array.length_toList
theorem nameOk.len {x : Str} (h : nameOk x) : x.length ≤ 8 := by rw [← str_len]; exact h.2.1
theorem nameOk.low {x : Str} (h : nameOk x) : lowS x := ⟨by have := h.len; show x.length ≤ 100; omega, fun c hc => by have := h.2.2 c hc; omega⟩
def clean (x : Str) : Prop := ∀ c ∈ x.cps.toList, c ≠ 32 ∧ c ≠ 10
theorem nameOk.clean {x : Str} (h : nameOk x) : clean x := fun c hc => by have := h.2.2 c hc; omega
theorem sI_clean (n : Int) : clean (sI n) := fun c hc => by
  unfold sI at hc
  rw [txt_is] at hc
  unfold txtL at hc
  split at hc
  · have := D_dig _ c hc; omega
  · rcases List.mem_cons.mp hc with rfl | hc
    · omega
    · have := D_dig _ c hc; omega
theorem nameOk_L {L : List Nat} (h1 : 1 ≤ L.length) (h2 : L.length ≤ 8) (h3 : ∀ c ∈ L, 97 ≤ c ∧ c ≤ 122) : nameOk (strL L) := ⟨h1, h2, h3⟩
def nameB (x : Str) : Bool := decide (1 ≤ x.cps.toList.length) && decide (x.cps.toList.length ≤ 8) && x.cps.toList.all fun c => decide (97 ≤ c) && decide (c ≤ 122)
theorem nameB_ok {x : Str} (h : nameB x = true) : nameOk x := by
  unfold nameB at h
  simp only [Bool.and_eq_true, decide_eq_true_eq, List.all_eq_true] at h
  exact ⟨h.1.1, h.1.2, h.2⟩
theorem nm_inj {n : Nat} {f : Nat → Str} (h1 : ∀ i, i < n → nameOk (f i)) (h2 : ∀ i j, i < n → j < n → f i = f j → i = j) : nmGood ((List.range n).map f) := by
  have g : ∀ i, i < n → ((List.range n).map f).getD i "" = f i := fun i hi => by
    rw [List.getD_eq_getElem?_getD, List.getElem?_map, List.getElem?_range hi]; rfl
  refine ⟨fun x hx => ?_, fun i j hi hj e => ?_⟩
  · obtain ⟨i, hi, rfl⟩ := List.mem_map.mp hx
    exact h1 i (List.mem_range.mp hi)
  · rw [List.length_map, List.length_range] at hi hj
    rw [g i hi, g j hj] at e
    exact h2 i j hi hj e
def nameF (way fill spot step k : Nat) : List Nat :=
  if way = 1 then List.replicate (k % 8) (97 + fill) ++ [97 + (step + k / 8) % 26]
  else if way = 3 ∧ k < 19 then (k19.getD ((k + step) % 19) "").cps.toList
  else if way = 2 ∨ way = 3 then List.replicate spot (97 + fill) ++ [97 + (step + k) % 26, 97 + k / 26] ++ List.replicate (6 - spot) (97 + fill)
  else (plainF k).cps.toList
theorem k19_ok : ∀ j : Fin 19, nameB (k19.getD j.val "") = true ∧ (k19.getD j.val "").cps.toList.length ≤ 6 := by decide +kernel
theorem k19_inj : ∀ i j : Fin 19, k19.getD i.val "" = k19.getD j.val "" → i = j := by decide +kernel
theorem plain_ok : ∀ j : Fin 40, nameB (plainF j.val) = true := by decide +kernel
theorem plain_inj : ∀ i j : Fin 40, plainF i.val = plainF j.val → i = j := by decide +kernel
theorem cps_inj {x y : Str} (h : x.cps.toList = y.cps.toList) : x = y := (strL_of h).trans (strL_of rfl).symm
theorem rep_mem {n a c : Nat} (h : c ∈ List.replicate n a) : c = a := (List.mem_replicate.mp h).2
theorem nameF_ok {way fill spot step k : Nat} (hf : fill < 26) (hs : spot < 7) (hk : k < 40) : nameOk (strL (nameF way fill spot step k)) := by
  unfold nameF
  split
  · refine nameOk_L (by simp) (by simp; omega) fun c hc => ?_
    rcases List.mem_append.mp hc with hc | hc
    · cases rep_mem hc; omega
    · cases List.mem_singleton.mp hc; omega
  · split
    · rw [← strL_of rfl]
      exact nameB_ok (k19_ok ⟨(k + step) % 19, Nat.mod_lt _ (by decide)⟩).1
    · split
      · refine nameOk_L (by simp; omega) (by simp; omega) fun c hc => ?_
        rcases List.mem_append.mp hc with hc | hc
        · rcases List.mem_append.mp hc with hc | hc
          · cases rep_mem hc; omega
          · simp only [List.mem_cons, List.not_mem_nil, or_false] at hc
            omega
        · cases rep_mem hc; omega
      · rw [← strL_of rfl]
        exact nameB_ok (plain_ok ⟨k, hk⟩)
theorem strL_inj {a b : List Nat} (h : strL a = strL b) : a = b := congrArg (fun x : Str => x.cps.toList) h
theorem nameF_inj {way fill spot step i j : Nat} (hi : i < 40) (hj : j < 40) (h : nameF way fill spot step i = nameF way fill spot step j) (hs : spot < 7) : i = j := by
  have mid : ∀ a b c d : Nat, List.replicate spot (97 + fill) ++ [97 + a, 97 + b] ++ List.replicate (6 - spot) (97 + fill) = List.replicate spot (97 + fill) ++ [97 + c, 97 + d] ++ List.replicate (6 - spot) (97 + fill) → a = c ∧ b = d := fun a b c d e => by
    rw [List.append_assoc, List.append_assoc] at e
    have e := List.append_cancel_left e
    injection e with e1 e
    injection e with e2 e
    omega
  have l8 : ∀ a b : Nat, (List.replicate spot (97 + fill) ++ [97 + a, 97 + b] ++ List.replicate (6 - spot) (97 + fill)).length = 8 := fun a b => by simp; omega
  unfold nameF at h
  by_cases w1 : way = 1
  · rw [if_pos w1, if_pos w1] at h
    have l := congrArg List.length h
    simp only [List.length_append, List.length_replicate, List.length_cons, List.length_nil] at l
    have e : i % 8 = j % 8 := by omega
    rw [e] at h
    have h := List.append_cancel_left h
    injection h with h _
    omega
  · rw [if_neg w1, if_neg w1] at h
    by_cases w3 : way = 3
    · by_cases c1 : i < 19
      · rw [if_pos ⟨w3, c1⟩] at h
        have li := (k19_ok ⟨(i + step) % 19, Nat.mod_lt _ (by decide)⟩).2
        by_cases c2 : j < 19
        · rw [if_pos ⟨w3, c2⟩] at h
          have z := k19_inj ⟨(i + step) % 19, Nat.mod_lt _ (by decide)⟩ ⟨(j + step) % 19, Nat.mod_lt _ (by decide)⟩ (cps_inj h)
          have z : (i + step) % 19 = (j + step) % 19 := congrArg (fun x : Fin 19 => x.val) z
          omega
        · rw [if_neg (fun z => c2 z.2), if_pos (.inr w3)] at h
          have l := congrArg List.length h
          rw [l8] at l
          have li : (k19.getD ((i + step) % 19) "").cps.toList.length ≤ 6 := li
          omega
      · rw [if_neg (fun z => c1 z.2), if_pos (.inr w3)] at h
        by_cases c2 : j < 19
        · rw [if_pos ⟨w3, c2⟩] at h
          have li : (k19.getD ((j + step) % 19) "").cps.toList.length ≤ 6 := (k19_ok ⟨(j + step) % 19, Nat.mod_lt _ (by decide)⟩).2
          have l := congrArg List.length h
          rw [l8] at l
          omega
        · rw [if_neg (fun z => c2 z.2), if_pos (.inr w3)] at h
          have := mid _ _ _ _ h
          omega
    · rw [if_neg (c := way = 3 ∧ i < 19) (fun z => w3 z.1), if_neg (c := way = 3 ∧ j < 19) (fun z => w3 z.1)] at h
      by_cases w2 : way = 2
      · rw [if_pos (.inl w2), if_pos (.inl w2)] at h
        have := mid _ _ _ _ h
        omega
      · rw [if_neg (fun z => z.elim w2 w3), if_neg (fun z => z.elim w2 w3)] at h
        have z := plain_inj ⟨i, hi⟩ ⟨j, hj⟩ (cps_inj h)
        exact congrArg (fun x : Fin 40 => x.val) z
def namesF (way fill spot step n : Nat) : List Str := (List.range n).map fun k => strL (nameF way fill spot step k)
theorem names_good {way fill spot step n : Nat} (hf : fill < 26) (hs : spot < 7) (hn : n ≤ 40) : nmGood (namesF way fill spot step n) :=
  nm_inj (fun i hi => nameF_ok hf hs (by omega)) fun i j hi hj e => nameF_inj (by omega) (by omega) (strL_inj e) hs
def knownK (nm : List Str) (k : Nat) : List (Key × V) := (List.range k).map fun i => ((Sum.inr (nm.getD i "") : Key), V.int (i : Int))
theorem known_snoc (nm : List Str) (k : Nat) : knownK nm (k + 1) = knownK nm k ++ [((Sum.inr (nm.getD k "") : Key), V.int (k : Int))] := by unfold knownK; rw [List.range_succ, List.map_append]; rfl
theorem known_len (nm : List Str) (k : Nat) : (knownK nm k).length = k := by simp [knownK]
theorem known_no {nm : List Str} (g : nmGood nm) : ∀ {k u : Nat}, u < nm.length → k ≤ u → valV (knownK nm k) (Sum.inr (nm.getD u "") : Key) = none := by
  intro k
  induction k with
  | zero => intro u _ _; rfl
  | succ k ih =>
    intro u hu hk
    rw [known_snoc, valV_snoc _ _ _ _ (ih (by omega) (Nat.le_refl _)), if_neg (fun z => by have := g.2 u k hu (by omega) (Sum.inr.inj z); omega)]
    exact ih hu (by omega)
theorem known_at {nm : List Str} (g : nmGood nm) {u : Nat} : ∀ {k : Nat}, k ≤ nm.length → u < k → valV (knownK nm k) (Sum.inr (nm.getD u "") : Key) = some (.int (u : Int)) := by
  intro k
  induction k with
  | zero => intro _ h; omega
  | succ k ih =>
    intro hk hu
    rw [known_snoc, valV_snoc _ _ _ _ (known_no g (by omega) (Nat.le_refl _))]
    by_cases e : u = k
    · subst e; rw [if_pos rfl]
    · rw [if_neg (fun z => e (g.2 u k (by omega) (by omega) (Sum.inr.inj z)))]
      exact ih (by omega) (by omega)
theorem known_put {nm : List Str} (g : nmGood nm) {k : Nat} (hk : k < nm.length) : putK (knownK nm k) (Sum.inr (nm.getD k "") : Key) (.int (k : Int)) = knownK nm (k + 1) := by
  rw [putK_new _ (known_no g hk (Nat.le_refl _)), known_snoc]
theorem known_keys (nm : List Str) : ((knownK nm nm.length).map fun kv => kV kv.1) = nm.map V.str := by
  unfold knownK
  rw [List.map_map]
  refine List.ext_getElem? fun i => ?_
  rw [List.getElem?_map, List.getElem?_map]
  by_cases h : i < nm.length
  · rw [List.getElem?_range h, List.getElem?_eq_getElem h]
    show some (V.str (nm.getD i "")) = some (V.str nm[i])
    rw [List.getD_eq_getElem?_getD, List.getElem?_eq_getElem h]; rfl
  · rw [List.getElem?_eq_none (by simp; omega), List.getElem?_eq_none (by omega)]; rfl
theorem big_rng (c : Int) : -9223372036854775808 ≤ bigF c ∧ bigF c ≤ 9223372036854775807 := by
  unfold bigF
  split
  · have r := draw_rng c 5 (show (0 : Int) < 4 by decide)
    generalize drawF c 5 4 = z at *
    rcases (show z = 0 ∨ z = 1 ∨ z = 2 ∨ z = 3 by omega) with rfl | rfl | rfl | rfl <;> decide
  · split <;> omega
theorem wl8_ok : ∀ i : Fin 8, nameB (wl8.getD i.val "") = true := by decide +kernel
theorem join_nil : ∀ (ws : List Str), (Str.join "" ws).cps.toList = (ws.map fun w => w.cps.toList).flatten
  | [] => rfl
  | [w] => by simp [Str.join]
  | w :: v :: r => by
    have ih := join_nil (v :: r)
    show ((w ++ ("" : Str)) ++ Str.join "" (v :: r)).cps.toList = _
    have e0 : ("" : Str).cps = #[] := by decide +kernel
    rw [Str.cps_append, Str.cps_append, Array.toList_append, Array.toList_append, ih, e0]
    simp
theorem word_ok (c : Int) : nameOk (wordF c) := by
  unfold wordF
  split
  · have r := draw_rng c 20 (show (0 : Int) < 12 by decide)
    exact nameB_ok (wl8_ok ⟨(drawF c 20 12).toNat, by omega⟩)
  · have r := draw_rng c 21 (show (0 : Int) < 8 by decide)
    have hL : (Builtin.Str.glued (Str.ofString "") (lettersF c (1 + drawF c 21 8).toNat)).cps.toList = (List.range (1 + drawF c 21 8).toNat).map fun (j : Nat) => 97 + (drawF c (22 + (0 + (j : Int))) 26).toNat := by
      rw [StrLaws.glued_eq_join]
      refine (join_nil _).trans ?_
      unfold lettersF
      rw [List.map_map]
      generalize List.range (1 + drawF c 21 8).toNat = l
      induction l with
      | nil => rfl
      | cons a l ih => rw [List.map_cons, List.flatten_cons, ih]; rfl
    unfold nameOk
    rw [hL, List.length_map, List.length_range]
    refine ⟨by omega, by omega, fun x hx => ?_⟩
    obtain ⟨j, _, rfl⟩ := List.mem_map.mp hx
    have := draw_rng c (22 + (0 + (j : Int))) (show (0 : Int) < 26 by decide)
    omega
def RdOk (nm : List Str) (k : Nat) (ra : Addr) (row : List Int) (kind : Str) (part : V) (ws : List Str) : Prop :=
  (kind = "step" ∧ ∃ u : Nat, part = .int (u : Int) ∧ u < k ∧ ws = [nm.getD u ""]) ∨ (kind = "sides" ∧ part = .ref ra ∧ ws = row.map sI) ∨ (kind = "word" ∧ ∃ t, part = .str t ∧ nameOk t ∧ ws = [t]) ∨
  (kind = "number" ∧ ∃ n : Int, part = .int n ∧ -9223372036854775808 ≤ n ∧ n ≤ 9223372036854775807 ∧ ws = [sI n]) ∨ (kind = "small" ∧ ∃ n : Int, part = .int n ∧ 0 ≤ n ∧ n < 1000 ∧ ws = [sI n])
abbrev formsOf (d : Sd) : List (Str × Int) := (formsL.getD d.kd ("", [])).2
theorem read_at {nm : List Str} {d : Sd} {k : Nat} (ra : Addr) (hd : d.kd < 15) (hu : d.kd < 3 ∨ (d.u0 < k ∧ d.u1 < k ∧ d.u2 < k)) : ∀ (j : Nat) f, (formsOf d)[j]? = some f → ∃ x ws, (stV d ra)[f.2.toNat]? = some x ∧ (partsL d nm)[j]? = some ws ∧ RdOk nm k ra (rowF d.c) f.1 x ws := by
  rcases (kd15 ‹d.kd < 15›) with hk | hk | hk | hk | hk | hk | hk | hk | hk | hk | hk | hk | hk | hk | hk
  · rcases d with ⟨kd, c, u0, u1, u2⟩; cases (show kd = 0 from hk)
    intro j f e
    match j, e with
    | 0, e => cases (Option.some.inj (show some (("sides" : Str), (1 : Int)) = some f from e)); exact ⟨_, _, rfl, rfl, Or.inr (.inl ⟨rfl, rfl, rfl⟩)⟩
    | n + 1, e => cases e
  · rcases d with ⟨kd, c, u0, u1, u2⟩; cases (show kd = 1 from hk)
    intro j f e
    match j, e with
    | 0, e => cases (Option.some.inj (show some (("number" : Str), (1 : Int)) = some f from e)); exact ⟨_, _, rfl, rfl, Or.inr (.inr (.inr (.inl ⟨rfl, bigF c, rfl, (big_rng c).1, (big_rng c).2, rfl⟩)))⟩
    | n + 1, e => cases e
  · rcases d with ⟨kd, c, u0, u1, u2⟩; cases (show kd = 2 from hk)
    intro j f e
    match j, e with
    | 0, e => cases (Option.some.inj (show some (("small" : Str), (2 : Int)) = some f from e)); exact ⟨_, _, rfl, rfl, Or.inr (.inr (.inr (.inr ⟨rfl, smF c 0, rfl, (sm_in c 0).1, (sm_in c 0).2, rfl⟩)))⟩
    | 1, e => cases (Option.some.inj (show some (("sides" : Str), (1 : Int)) = some f from e)); exact ⟨_, _, rfl, rfl, Or.inr (.inl ⟨rfl, rfl, rfl⟩)⟩
    | n + 2, e => cases e
  · rcases d with ⟨kd, c, u0, u1, u2⟩; cases (show kd = 3 from hk)
    have hu : u0 < k ∧ u1 < k ∧ u2 < k := hu.resolve_left (show ¬ (3 : Nat) < 3 by decide)
    intro j f e
    match j, e with
    | 0, e => cases (Option.some.inj (show some (("word" : Str), (1 : Int)) = some f from e)); exact ⟨_, _, rfl, rfl, Or.inr (.inr (.inl ⟨rfl, wordF c, rfl, word_ok c, rfl⟩))⟩
    | 1, e => cases (Option.some.inj (show some (("step" : Str), (2 : Int)) = some f from e)); exact ⟨_, _, rfl, rfl, Or.inl ⟨rfl, u0, rfl, hu.1, rfl⟩⟩
    | n + 2, e => cases e
  · rcases d with ⟨kd, c, u0, u1, u2⟩; cases (show kd = 4 from hk)
    have hu : u0 < k ∧ u1 < k ∧ u2 < k := hu.resolve_left (show ¬ (4 : Nat) < 3 by decide)
    intro j f e
    match j, e with
    | 0, e => cases (Option.some.inj (show some (("word" : Str), (1 : Int)) = some f from e)); exact ⟨_, _, rfl, rfl, Or.inr (.inr (.inl ⟨rfl, wordF c, rfl, word_ok c, rfl⟩))⟩
    | 1, e => cases (Option.some.inj (show some (("step" : Str), (2 : Int)) = some f from e)); exact ⟨_, _, rfl, rfl, Or.inl ⟨rfl, u0, rfl, hu.1, rfl⟩⟩
    | 2, e => cases (Option.some.inj (show some (("step" : Str), (3 : Int)) = some f from e)); exact ⟨_, _, rfl, rfl, Or.inl ⟨rfl, u1, rfl, hu.2.1, rfl⟩⟩
    | n + 3, e => cases e
  · rcases d with ⟨kd, c, u0, u1, u2⟩; cases (show kd = 5 from hk)
    have hu : u0 < k ∧ u1 < k ∧ u2 < k := hu.resolve_left (show ¬ (5 : Nat) < 3 by decide)
    intro j f e
    match j, e with
    | 0, e => cases (Option.some.inj (show some (("step" : Str), (1 : Int)) = some f from e)); exact ⟨_, _, rfl, rfl, Or.inl ⟨rfl, u0, rfl, hu.1, rfl⟩⟩
    | 1, e => cases (Option.some.inj (show some (("step" : Str), (2 : Int)) = some f from e)); exact ⟨_, _, rfl, rfl, Or.inl ⟨rfl, u1, rfl, hu.2.1, rfl⟩⟩
    | 2, e => cases (Option.some.inj (show some (("step" : Str), (3 : Int)) = some f from e)); exact ⟨_, _, rfl, rfl, Or.inl ⟨rfl, u2, rfl, hu.2.2, rfl⟩⟩
    | n + 3, e => cases e
  · rcases d with ⟨kd, c, u0, u1, u2⟩; cases (show kd = 6 from hk)
    have hu : u0 < k ∧ u1 < k ∧ u2 < k := hu.resolve_left (show ¬ (6 : Nat) < 3 by decide)
    intro j f e
    match j, e with
    | 0, e => cases (Option.some.inj (show some (("step" : Str), (1 : Int)) = some f from e)); exact ⟨_, _, rfl, rfl, Or.inl ⟨rfl, u0, rfl, hu.1, rfl⟩⟩
    | 1, e => cases (Option.some.inj (show some (("sides" : Str), (2 : Int)) = some f from e)); exact ⟨_, _, rfl, rfl, Or.inr (.inl ⟨rfl, rfl, rfl⟩)⟩
    | n + 2, e => cases e
  · rcases d with ⟨kd, c, u0, u1, u2⟩; cases (show kd = 7 from hk)
    have hu : u0 < k ∧ u1 < k ∧ u2 < k := hu.resolve_left (show ¬ (7 : Nat) < 3 by decide)
    intro j f e
    match j, e with
    | 0, e => cases (Option.some.inj (show some (("step" : Str), (1 : Int)) = some f from e)); exact ⟨_, _, rfl, rfl, Or.inl ⟨rfl, u0, rfl, hu.1, rfl⟩⟩
    | 1, e => cases (Option.some.inj (show some (("small" : Str), (2 : Int)) = some f from e)); exact ⟨_, _, rfl, rfl, Or.inr (.inr (.inr (.inr ⟨rfl, smF c 0, rfl, (sm_in c 0).1, (sm_in c 0).2, rfl⟩)))⟩
    | n + 2, e => cases e
  · rcases d with ⟨kd, c, u0, u1, u2⟩; cases (show kd = 8 from hk)
    have hu : u0 < k ∧ u1 < k ∧ u2 < k := hu.resolve_left (show ¬ (8 : Nat) < 3 by decide)
    intro j f e
    match j, e with
    | 0, e => cases (Option.some.inj (show some (("step" : Str), (1 : Int)) = some f from e)); exact ⟨_, _, rfl, rfl, Or.inl ⟨rfl, u0, rfl, hu.1, rfl⟩⟩
    | 1, e => cases (Option.some.inj (show some (("small" : Str), (2 : Int)) = some f from e)); exact ⟨_, _, rfl, rfl, Or.inr (.inr (.inr (.inr ⟨rfl, smF c 0, rfl, (sm_in c 0).1, (sm_in c 0).2, rfl⟩)))⟩
    | 2, e => cases (Option.some.inj (show some (("small" : Str), (3 : Int)) = some f from e)); exact ⟨_, _, rfl, rfl, Or.inr (.inr (.inr (.inr ⟨rfl, smF c 1, rfl, (sm_in c 1).1, (sm_in c 1).2, rfl⟩)))⟩
    | 3, e => cases (Option.some.inj (show some (("small" : Str), (4 : Int)) = some f from e)); exact ⟨_, _, rfl, rfl, Or.inr (.inr (.inr (.inr ⟨rfl, smF c 2, rfl, (sm_in c 2).1, (sm_in c 2).2, rfl⟩)))⟩
    | 4, e => cases (Option.some.inj (show some (("small" : Str), (5 : Int)) = some f from e)); exact ⟨_, _, rfl, rfl, Or.inr (.inr (.inr (.inr ⟨rfl, smF c 3, rfl, (sm_in c 3).1, (sm_in c 3).2, rfl⟩)))⟩
    | n + 5, e => cases e
  · rcases d with ⟨kd, c, u0, u1, u2⟩; cases (show kd = 9 from hk)
    have hu : u0 < k ∧ u1 < k ∧ u2 < k := hu.resolve_left (show ¬ (9 : Nat) < 3 by decide)
    intro j f e
    match j, e with
    | 0, e => cases (Option.some.inj (show some (("step" : Str), (1 : Int)) = some f from e)); exact ⟨_, _, rfl, rfl, Or.inl ⟨rfl, u0, rfl, hu.1, rfl⟩⟩
    | 1, e => cases (Option.some.inj (show some (("small" : Str), (2 : Int)) = some f from e)); exact ⟨_, _, rfl, rfl, Or.inr (.inr (.inr (.inr ⟨rfl, smF c 0, rfl, (sm_in c 0).1, (sm_in c 0).2, rfl⟩)))⟩
    | 2, e => cases (Option.some.inj (show some (("small" : Str), (3 : Int)) = some f from e)); exact ⟨_, _, rfl, rfl, Or.inr (.inr (.inr (.inr ⟨rfl, smF c 1, rfl, (sm_in c 1).1, (sm_in c 1).2, rfl⟩)))⟩
    | n + 3, e => cases e
  · rcases d with ⟨kd, c, u0, u1, u2⟩; cases (show kd = 10 from hk)
    have hu : u0 < k ∧ u1 < k ∧ u2 < k := hu.resolve_left (show ¬ (10 : Nat) < 3 by decide)
    intro j f e
    match j, e with
    | 0, e => cases (Option.some.inj (show some (("step" : Str), (1 : Int)) = some f from e)); exact ⟨_, _, rfl, rfl, Or.inl ⟨rfl, u0, rfl, hu.1, rfl⟩⟩
    | 1, e => cases (Option.some.inj (show some (("sides" : Str), (2 : Int)) = some f from e)); exact ⟨_, _, rfl, rfl, Or.inr (.inl ⟨rfl, rfl, rfl⟩)⟩
    | n + 2, e => cases e
  · rcases d with ⟨kd, c, u0, u1, u2⟩; cases (show kd = 11 from hk)
    have hu : u0 < k ∧ u1 < k ∧ u2 < k := hu.resolve_left (show ¬ (11 : Nat) < 3 by decide)
    intro j f e
    match j, e with
    | 0, e => cases (Option.some.inj (show some (("step" : Str), (1 : Int)) = some f from e)); exact ⟨_, _, rfl, rfl, Or.inl ⟨rfl, u0, rfl, hu.1, rfl⟩⟩
    | 1, e => cases (Option.some.inj (show some (("step" : Str), (2 : Int)) = some f from e)); exact ⟨_, _, rfl, rfl, Or.inl ⟨rfl, u1, rfl, hu.2.1, rfl⟩⟩
    | 2, e => cases (Option.some.inj (show some (("small" : Str), (3 : Int)) = some f from e)); exact ⟨_, _, rfl, rfl, Or.inr (.inr (.inr (.inr ⟨rfl, smF c 0, rfl, (sm_in c 0).1, (sm_in c 0).2, rfl⟩)))⟩
    | n + 3, e => cases e
  · rcases d with ⟨kd, c, u0, u1, u2⟩; cases (show kd = 12 from hk)
    have hu : u0 < k ∧ u1 < k ∧ u2 < k := hu.resolve_left (show ¬ (12 : Nat) < 3 by decide)
    intro j f e
    match j, e with
    | 0, e => cases (Option.some.inj (show some (("step" : Str), (1 : Int)) = some f from e)); exact ⟨_, _, rfl, rfl, Or.inl ⟨rfl, u0, rfl, hu.1, rfl⟩⟩
    | 1, e => cases (Option.some.inj (show some (("step" : Str), (2 : Int)) = some f from e)); exact ⟨_, _, rfl, rfl, Or.inl ⟨rfl, u1, rfl, hu.2.1, rfl⟩⟩
    | n + 2, e => cases e
  · rcases d with ⟨kd, c, u0, u1, u2⟩; cases (show kd = 13 from hk)
    have hu : u0 < k ∧ u1 < k ∧ u2 < k := hu.resolve_left (show ¬ (13 : Nat) < 3 by decide)
    intro j f e
    match j, e with
    | 0, e => cases (Option.some.inj (show some (("word" : Str), (1 : Int)) = some f from e)); exact ⟨_, _, rfl, rfl, Or.inr (.inr (.inl ⟨rfl, wordF c, rfl, word_ok c, rfl⟩))⟩
    | 1, e => cases (Option.some.inj (show some (("step" : Str), (2 : Int)) = some f from e)); exact ⟨_, _, rfl, rfl, Or.inl ⟨rfl, u0, rfl, hu.1, rfl⟩⟩
    | 2, e => cases (Option.some.inj (show some (("small" : Str), (3 : Int)) = some f from e)); exact ⟨_, _, rfl, rfl, Or.inr (.inr (.inr (.inr ⟨rfl, smF c 0, rfl, (sm_in c 0).1, (sm_in c 0).2, rfl⟩)))⟩
    | n + 3, e => cases e
  · rcases d with ⟨kd, c, u0, u1, u2⟩; cases (show kd = 14 from hk)
    have hu : u0 < k ∧ u1 < k ∧ u2 < k := hu.resolve_left (show ¬ (14 : Nat) < 3 by decide)
    intro j f e
    match j, e with
    | 0, e => cases (Option.some.inj (show some (("word" : Str), (1 : Int)) = some f from e)); exact ⟨_, _, rfl, rfl, Or.inr (.inr (.inl ⟨rfl, wordF c, rfl, word_ok c, rfl⟩))⟩
    | 1, e => cases (Option.some.inj (show some (("step" : Str), (2 : Int)) = some f from e)); exact ⟨_, _, rfl, rfl, Or.inl ⟨rfl, u0, rfl, hu.1, rfl⟩⟩
    | 2, e => cases (Option.some.inj (show some (("small" : Str), (3 : Int)) = some f from e)); exact ⟨_, _, rfl, rfl, Or.inr (.inr (.inr (.inr ⟨rfl, smF c 0, rfl, (sm_in c 0).1, (sm_in c 0).2, rfl⟩)))⟩
    | n + 3, e => cases e
theorem st_ind {d : Sd} (ra rb : Addr) (hd : d.kd < 15) : ∀ (j : Nat) f, (formsOf d)[j]? = some f → f.1 ≠ "sides" → (stV d ra)[f.2.toNat]? = (stV d rb)[f.2.toNat]? := by
  rcases (kd15 ‹d.kd < 15›) with hk | hk | hk | hk | hk | hk | hk | hk | hk | hk | hk | hk | hk | hk | hk
  · rcases d with ⟨kd, c, u0, u1, u2⟩; cases (show kd = 0 from hk)
    intro j f e n
    match j, e with
    | 0, e => cases (Option.some.inj (show some (("sides" : Str), (1 : Int)) = some f from e)); exact absurd rfl n
    | n + 1, e => cases e
  · rcases d with ⟨kd, c, u0, u1, u2⟩; cases (show kd = 1 from hk)
    intro j f e n
    match j, e with
    | 0, e => cases (Option.some.inj (show some (("number" : Str), (1 : Int)) = some f from e)); exact rfl
    | n + 1, e => cases e
  · rcases d with ⟨kd, c, u0, u1, u2⟩; cases (show kd = 2 from hk)
    intro j f e n
    match j, e with
    | 0, e => cases (Option.some.inj (show some (("small" : Str), (2 : Int)) = some f from e)); exact rfl
    | 1, e => cases (Option.some.inj (show some (("sides" : Str), (1 : Int)) = some f from e)); exact absurd rfl n
    | n + 2, e => cases e
  · rcases d with ⟨kd, c, u0, u1, u2⟩; cases (show kd = 3 from hk)
    intro j f e n
    match j, e with
    | 0, e => cases (Option.some.inj (show some (("word" : Str), (1 : Int)) = some f from e)); exact rfl
    | 1, e => cases (Option.some.inj (show some (("step" : Str), (2 : Int)) = some f from e)); exact rfl
    | n + 2, e => cases e
  · rcases d with ⟨kd, c, u0, u1, u2⟩; cases (show kd = 4 from hk)
    intro j f e n
    match j, e with
    | 0, e => cases (Option.some.inj (show some (("word" : Str), (1 : Int)) = some f from e)); exact rfl
    | 1, e => cases (Option.some.inj (show some (("step" : Str), (2 : Int)) = some f from e)); exact rfl
    | 2, e => cases (Option.some.inj (show some (("step" : Str), (3 : Int)) = some f from e)); exact rfl
    | n + 3, e => cases e
  · rcases d with ⟨kd, c, u0, u1, u2⟩; cases (show kd = 5 from hk)
    intro j f e n
    match j, e with
    | 0, e => cases (Option.some.inj (show some (("step" : Str), (1 : Int)) = some f from e)); exact rfl
    | 1, e => cases (Option.some.inj (show some (("step" : Str), (2 : Int)) = some f from e)); exact rfl
    | 2, e => cases (Option.some.inj (show some (("step" : Str), (3 : Int)) = some f from e)); exact rfl
    | n + 3, e => cases e
  · rcases d with ⟨kd, c, u0, u1, u2⟩; cases (show kd = 6 from hk)
    intro j f e n
    match j, e with
    | 0, e => cases (Option.some.inj (show some (("step" : Str), (1 : Int)) = some f from e)); exact rfl
    | 1, e => cases (Option.some.inj (show some (("sides" : Str), (2 : Int)) = some f from e)); exact absurd rfl n
    | n + 2, e => cases e
  · rcases d with ⟨kd, c, u0, u1, u2⟩; cases (show kd = 7 from hk)
    intro j f e n
    match j, e with
    | 0, e => cases (Option.some.inj (show some (("step" : Str), (1 : Int)) = some f from e)); exact rfl
    | 1, e => cases (Option.some.inj (show some (("small" : Str), (2 : Int)) = some f from e)); exact rfl
    | n + 2, e => cases e
  · rcases d with ⟨kd, c, u0, u1, u2⟩; cases (show kd = 8 from hk)
    intro j f e n
    match j, e with
    | 0, e => cases (Option.some.inj (show some (("step" : Str), (1 : Int)) = some f from e)); exact rfl
    | 1, e => cases (Option.some.inj (show some (("small" : Str), (2 : Int)) = some f from e)); exact rfl
    | 2, e => cases (Option.some.inj (show some (("small" : Str), (3 : Int)) = some f from e)); exact rfl
    | 3, e => cases (Option.some.inj (show some (("small" : Str), (4 : Int)) = some f from e)); exact rfl
    | 4, e => cases (Option.some.inj (show some (("small" : Str), (5 : Int)) = some f from e)); exact rfl
    | n + 5, e => cases e
  · rcases d with ⟨kd, c, u0, u1, u2⟩; cases (show kd = 9 from hk)
    intro j f e n
    match j, e with
    | 0, e => cases (Option.some.inj (show some (("step" : Str), (1 : Int)) = some f from e)); exact rfl
    | 1, e => cases (Option.some.inj (show some (("small" : Str), (2 : Int)) = some f from e)); exact rfl
    | 2, e => cases (Option.some.inj (show some (("small" : Str), (3 : Int)) = some f from e)); exact rfl
    | n + 3, e => cases e
  · rcases d with ⟨kd, c, u0, u1, u2⟩; cases (show kd = 10 from hk)
    intro j f e n
    match j, e with
    | 0, e => cases (Option.some.inj (show some (("step" : Str), (1 : Int)) = some f from e)); exact rfl
    | 1, e => cases (Option.some.inj (show some (("sides" : Str), (2 : Int)) = some f from e)); exact absurd rfl n
    | n + 2, e => cases e
  · rcases d with ⟨kd, c, u0, u1, u2⟩; cases (show kd = 11 from hk)
    intro j f e n
    match j, e with
    | 0, e => cases (Option.some.inj (show some (("step" : Str), (1 : Int)) = some f from e)); exact rfl
    | 1, e => cases (Option.some.inj (show some (("step" : Str), (2 : Int)) = some f from e)); exact rfl
    | 2, e => cases (Option.some.inj (show some (("small" : Str), (3 : Int)) = some f from e)); exact rfl
    | n + 3, e => cases e
  · rcases d with ⟨kd, c, u0, u1, u2⟩; cases (show kd = 12 from hk)
    intro j f e n
    match j, e with
    | 0, e => cases (Option.some.inj (show some (("step" : Str), (1 : Int)) = some f from e)); exact rfl
    | 1, e => cases (Option.some.inj (show some (("step" : Str), (2 : Int)) = some f from e)); exact rfl
    | n + 2, e => cases e
  · rcases d with ⟨kd, c, u0, u1, u2⟩; cases (show kd = 13 from hk)
    intro j f e n
    match j, e with
    | 0, e => cases (Option.some.inj (show some (("word" : Str), (1 : Int)) = some f from e)); exact rfl
    | 1, e => cases (Option.some.inj (show some (("step" : Str), (2 : Int)) = some f from e)); exact rfl
    | 2, e => cases (Option.some.inj (show some (("small" : Str), (3 : Int)) = some f from e)); exact rfl
    | n + 3, e => cases e
  · rcases d with ⟨kd, c, u0, u1, u2⟩; cases (show kd = 14 from hk)
    intro j f e n
    match j, e with
    | 0, e => cases (Option.some.inj (show some (("word" : Str), (1 : Int)) = some f from e)); exact rfl
    | 1, e => cases (Option.some.inj (show some (("step" : Str), (2 : Int)) = some f from e)); exact rfl
    | 2, e => cases (Option.some.inj (show some (("small" : Str), (3 : Int)) = some f from e)); exact rfl
    | n + 3, e => cases e
theorem forms_one : ∀ (kd : Fin 15) (i j : Fin 5), ((formsL.getD kd.val ("", [])).2.getD i.val ("", 0)).1 = "sides" → ((formsL.getD kd.val ("", [])).2.getD j.val ("", 0)).1 = "sides" → i = j := by decide +kernel
theorem forms_dif : ∀ (kd : Fin 15) (i j : Fin 5), i.val < (formsL.getD kd.val ("", [])).2.length → j.val < (formsL.getD kd.val ("", [])).2.length → ((formsL.getD kd.val ("", [])).2.getD i.val ("", 0)).2 = ((formsL.getD kd.val ("", [])).2.getD j.val ("", 0)).2 → i = j := by decide +kernel
theorem forms_rng : ∀ (kd : Fin 15) (i : Fin 5), i.val < (formsL.getD kd.val ("", [])).2.length → 1 ≤ ((formsL.getD kd.val ("", [])).2.getD i.val ("", 0)).2 ∧ ((formsL.getD kd.val ("", [])).2.getD i.val ("", 0)).2 ≤ (formsL.getD kd.val ("", [])).2.length := by decide +kernel
theorem forms_all : ∀ (kd : Fin 15) (p : Fin 5), p.val < (formsL.getD kd.val ("", [])).2.length → ∃ i : Fin 5, i.val < (formsL.getD kd.val ("", [])).2.length ∧ ((formsL.getD kd.val ("", [])).2.getD i.val ("", 0)).2 = (p.val : Int) + 1 := by decide +kernel
theorem gd_some {α : Type} {l : List α} {i : Nat} {x a : α} (h : l[i]? = some x) : l.getD i a = x := by rw [List.getD_eq_getElem?_getD, h]; rfl
theorem st_len {d : Sd} (ra : Addr) (h : d.kd < 15) : (stV d ra).length = (formsOf d).length + 1 := by
  rcases d with ⟨kd, c, u0, u1, u2⟩
  exact below15 (P := fun kd => (stV ⟨kd, c, u0, u1, u2⟩ ra).length = ((formsL.getD kd ("", [])).2).length + 1) h rfl rfl rfl rfl rfl rfl rfl rfl rfl rfl rfl rfl rfl rfl rfl
theorem st_head {d : Sd} (ra : Addr) (h : d.kd < 15) : (stV d ra)[0]? = some (.str (kindS d.kd)) := step_head h ..
theorem st_flat {d : Sd} (ra : Addr) (h : d.kd < 15) : (∀ z ∈ stV d ra, flatV z = true ∨ z = .ref ra) ∧ ((stV d ra).any fun z => eqV z .non) = false := by
  rcases d with ⟨kd, c, u0, u1, u2⟩
  exact below15 (P := fun kd => (∀ z ∈ stV ⟨kd, c, u0, u1, u2⟩ ra, flatV z = true ∨ z = .ref ra) ∧ ((stV ⟨kd, c, u0, u1, u2⟩ ra).any fun z => eqV z .non) = false) h (by simp [stV, madeV, stepV, flatV, eqV]) (by simp [stV, madeV, stepV, flatV, eqV]) (by simp [stV, madeV, stepV, flatV, eqV]) (by simp [stV, madeV, stepV, flatV, eqV]) (by simp [stV, madeV, stepV, flatV, eqV]) (by simp [stV, madeV, stepV, flatV, eqV]) (by simp [stV, madeV, stepV, flatV, eqV]) (by simp [stV, madeV, stepV, flatV, eqV]) (by simp [stV, madeV, stepV, flatV, eqV]) (by simp [stV, madeV, stepV, flatV, eqV]) (by simp [stV, madeV, stepV, flatV, eqV]) (by simp [stV, madeV, stepV, flatV, eqV]) (by simp [stV, madeV, stepV, flatV, eqV]) (by simp [stV, madeV, stepV, flatV, eqV]) (by simp [stV, madeV, stepV, flatV, eqV])
def Filled (d : Sd) (ra : Addr) (j : Nat) (xs : List V) : Prop := xs.length = (formsOf d).length + 1 ∧ xs[0]? = some (.str (kindS d.kd)) ∧ ∀ i f, i < j → (formsOf d)[i]? = some f → xs[f.2.toNat]? = (stV d ra)[f.2.toNat]?
theorem forms_l5 (d : Sd) : (formsOf d).length ≤ 5 := forms_len (i := d.kd)
theorem Filled.put {d : Sd} {ra rb : Addr} {j : Nat} {xs : List V} {f : Str × Int} {x : V} (h : Filled d ra j xs) (hd : d.kd < 15) (e : (formsOf d)[j]? = some f) (ex : (stV d rb)[f.2.toNat]? = some x) (n : rb = ra ∨ f.1 = "sides") : Filled d rb (j + 1) (xs.set f.2.toNat x) := by
  have l5 := forms_l5 d
  have jl := (List.getElem?_eq_some_iff.mp e).1
  have fj := forms_rng ⟨d.kd, hd⟩ ⟨j, by omega⟩ jl
  have gj := gd_some (a := (("", 0) : Str × Int)) e
  rw [show ((formsL.getD (⟨d.kd, hd⟩ : Fin 15).val ("", [])).2.getD (⟨j, by omega⟩ : Fin 5).val ("", 0)) = f from gj] at fj
  obtain ⟨l, h0, hh⟩ := h
  refine ⟨by rw [List.length_set]; exact l, by rw [List.getElem?_set_ne (by omega)]; exact h0, fun i g hi eg => ?_⟩
  by_cases c : i = j
  · subst c
    rw [e] at eg; cases eg
    rw [List.getElem?_set_self (by have := fj.2; show f.2.toNat < xs.length; have e2 : (formsL.getD (⟨d.kd, hd⟩ : Fin 15).val ("", [])).2.length = (formsOf d).length := rfl; omega), ex]
  · have il := (List.getElem?_eq_some_iff.mp eg).1
    have gi := gd_some (a := (("", 0) : Str × Int)) eg
    have fi := forms_rng ⟨d.kd, hd⟩ ⟨i, by omega⟩ il
    rw [show ((formsL.getD (⟨d.kd, hd⟩ : Fin 15).val ("", [])).2.getD (⟨i, by omega⟩ : Fin 5).val ("", 0)) = g from gi] at fi
    have ne : f.2.toNat ≠ g.2.toNat := fun z => c (by
      have := forms_dif ⟨d.kd, hd⟩ ⟨i, by omega⟩ ⟨j, by omega⟩ il jl (by
        rw [show ((formsL.getD (⟨d.kd, hd⟩ : Fin 15).val ("", [])).2.getD (⟨i, by omega⟩ : Fin 5).val ("", 0)) = g from gi, show ((formsL.getD (⟨d.kd, hd⟩ : Fin 15).val ("", [])).2.getD (⟨j, by omega⟩ : Fin 5).val ("", 0)) = f from gj]; omega)
      exact congrArg (fun x : Fin 5 => x.val) this)
    rw [List.getElem?_set_ne ne, hh i g (by omega) eg]
    rcases n with rfl | n
    · rfl
    · refine st_ind ra rb hd i g eg fun z => c ?_
      have := forms_one ⟨d.kd, hd⟩ ⟨i, by omega⟩ ⟨j, by omega⟩ (by rw [show ((formsL.getD (⟨d.kd, hd⟩ : Fin 15).val ("", [])).2.getD (⟨i, by omega⟩ : Fin 5).val ("", 0)) = g from gi]; exact z) (by rw [show ((formsL.getD (⟨d.kd, hd⟩ : Fin 15).val ("", [])).2.getD (⟨j, by omega⟩ : Fin 5).val ("", 0)) = f from gj]; exact n)
      exact congrArg (fun x : Fin 5 => x.val) this
theorem Filled.all {d : Sd} {ra : Addr} {xs : List V} (h : Filled d ra (formsOf d).length xs) (hd : d.kd < 15) : xs = stV d ra := by
  obtain ⟨l, h0, hh⟩ := h
  have l5 := forms_l5 d
  refine List.ext_getElem? fun p => ?_
  match p with
  | 0 => rw [h0, st_head ra hd]
  | p + 1 =>
    by_cases c : p < (formsOf d).length
    · obtain ⟨i, hi, ei⟩ := forms_all ⟨d.kd, hd⟩ ⟨p, by omega⟩ c
      have hi : i.val < (formsOf d).length := hi
      have := hh i.val _ hi (List.getElem?_eq_getElem hi)
      have ei : ((formsOf d).getD i.val ("", 0)).2 = (p : Int) + 1 := ei
      rw [gd_some (List.getElem?_eq_getElem hi)] at ei
      rw [ei, show ((p : Int) + 1).toNat = p + 1 by omega] at this
      exact this
    · rw [List.getElem?_eq_none (by omega), List.getElem?_eq_none (by rw [st_len ra hd]; omega)]
def rowW (ds : List Sd) (nm : List Str) (i : Nat) : List Str := [nm.getD i "", "=", kindS (ds.getD i ⟨0, 0, 0, 0, 0⟩).kd] ++ wordsF (ds.getD i ⟨0, 0, 0, 0, 0⟩) nm
def outW (os : List Nat) (nm : List Str) : List Str := "out" :: outsF os nm
def allW (ds : List Sd) (os : List Nat) (nm : List Str) : List (List Str) := (List.range ds.length).map (rowW ds nm) ++ [outW os nm]
theorem text_all (ds : List Sd) (os : List Nat) (nm : List Str) : textL ds os nm = (allW ds os nm).map (Builtin.Str.glued " ") := by
  unfold textL allW rowsF outS outW
  rw [List.map_append, List.map_map]
  rfl
theorem all_len (ds : List Sd) (os : List Nat) (nm : List Str) : (allW ds os nm).length = ds.length + 1 := by simp [allW]
theorem all_row {ds : List Sd} {os : List Nat} {nm : List Str} {i : Nat} (h : i < ds.length) : (allW ds os nm)[i]? = some (rowW ds nm i) := by
  unfold allW
  rw [List.getElem?_append_left (by simpa using h), List.getElem?_map, List.getElem?_range h]; rfl
theorem all_last (ds : List Sd) (os : List Nat) (nm : List Str) : (allW ds os nm)[ds.length]? = some (outW os nm) := by
  unfold allW
  rw [List.getElem?_append_right (by simp)]; simp
def OrdOk (ds : List Sd) : Prop := ∀ (i : Nat) (d : Sd), ds[i]? = some d → d.kd < 3 ∨ (d.u0 < i ∧ d.u1 < i ∧ d.u2 < i)
theorem eq_clean : clean "=" := by unfold clean; decide +kernel
theorem out_clean : clean "out" := by unfold clean; decide +kernel
theorem kind_clean {i : Nat} (h : i < 15) : clean (kindS i) := by
  have z : ∀ j : Fin 15, ∀ c ∈ (kindS j.val).cps.toList, c ≠ 32 ∧ c ≠ 10 := by decide +kernel
  exact z ⟨i, h⟩
theorem getD_ok {nm : List Str} (g : nmGood nm) {u : Nat} (h : u < nm.length) : nameOk (nm.getD u "") := g.1 _ (List.mem_of_getElem? (getS h))
theorem words_clean {d : Sd} {nm : List Str} {k : Nat} (g : nmGood nm) (hd : d.kd < 15) (hu : d.kd < 3 ∨ (d.u0 < k ∧ d.u1 < k ∧ d.u2 < k)) (hk : k ≤ nm.length) : ∀ w ∈ wordsF d nm, clean w := by
  intro w hw
  obtain ⟨ws, h1, h2⟩ := List.mem_flatten.mp hw
  obtain ⟨j, hj⟩ := List.getElem?_of_mem h1
  have jl : j < (formsOf d).length := by show j < ((formsL.getD d.kd ("", [])).2).length; rw [← parts_n hd (nm := nm)]; exact (List.getElem?_eq_some_iff.mp hj).1
  obtain ⟨x, ws', _, e2, r⟩ := read_at (nm := nm) (k := k) 0 hd hu j _ (List.getElem?_eq_getElem jl)
  rw [hj] at e2; cases e2
  rcases r with ⟨_, u, _, hu, rfl⟩ | ⟨_, _, rfl⟩ | ⟨_, t, _, ht, rfl⟩ | ⟨_, n, _, _, _, rfl⟩ | ⟨_, n, _, _, _, rfl⟩
  · cases List.mem_singleton.mp h2; exact (getD_ok g (by omega)).clean
  · obtain ⟨n, _, rfl⟩ := List.mem_map.mp h2; exact sI_clean n
  · cases List.mem_singleton.mp h2; exact ht.clean
  · cases List.mem_singleton.mp h2; exact sI_clean n
  · cases List.mem_singleton.mp h2; exact sI_clean n
theorem all_clean {ds : List Sd} {os : List Nat} {nm : List Str} (g : nmGood nm) (nl : nm.length = ds.length) (dk : ∀ d ∈ ds, SdOk ds.length d) (od : OrdOk ds) (ob : ∀ o ∈ os, o < ds.length) : ∀ ws ∈ allW ds os nm, ws ≠ [] ∧ ∀ w ∈ ws, clean w := by
  intro ws h
  rcases List.mem_append.mp h with h | h
  · obtain ⟨i, hi, rfl⟩ := List.mem_map.mp h
    have hi := List.mem_range.mp hi
    have gi : ds[i]? = some (ds.getD i ⟨0, 0, 0, 0, 0⟩) := by rw [List.getD_eq_getElem?_getD, List.getElem?_eq_getElem hi]; rfl
    refine ⟨by unfold rowW; simp, fun w hw => ?_⟩
    rcases List.mem_append.mp hw with hw | hw
    · simp only [List.mem_cons, List.not_mem_nil, or_false] at hw
      rcases hw with rfl | rfl | rfl
      · exact (getD_ok g (by omega)).clean
      · exact eq_clean
      · exact kind_clean (dk _ (List.mem_of_getElem? gi)).1
    · exact words_clean g (dk _ (List.mem_of_getElem? gi)).1 (od i _ gi) (by omega) w hw
  · cases List.mem_singleton.mp h
    refine ⟨by unfold outW; simp, fun w hw => ?_⟩
    rcases List.mem_cons.mp hw with rfl | hw
    · exact out_clean
    · obtain ⟨o, ho, rfl⟩ := List.mem_map.mp hw
      exact (getD_ok g (by have := ob o ho; omega)).clean
theorem nl_is : ("\n" : Str) = ⟨#[10]⟩ := by decide +kernel
theorem sp_is : (" " : Str) = ⟨#[32]⟩ := by decide +kernel
theorem text_split {ds : List Sd} {os : List Nat} {nm : List Str} (h : ∀ ws ∈ allW ds os nm, ws ≠ [] ∧ ∀ w ∈ ws, clean w) : (splitL 10 (Builtin.Str.glued "\n" (textL ds os nm)).cps.toList).map (fun w => V.str (strL w)) = (textL ds os nm).map V.str := by
  rw [nl_is]
  refine split_glued (by unfold textL; simp) fun w hw m => ?_
  rw [text_all] at hw
  obtain ⟨ws, h1, rfl⟩ := List.mem_map.mp hw
  rw [sp_is] at m
  rcases glued_mem m with e | ⟨v, hv, m⟩
  · exact absurd e (by decide)
  · exact ((h ws h1).2 v hv 10 m).2 rfl
theorem row_split {ws : List Str} (h : ws ≠ [] ∧ ∀ w ∈ ws, clean w) : (splitL 32 (Builtin.Str.glued " " ws).cps.toList).map (fun w => V.str (strL w)) = ws.map V.str := by
  rw [sp_is]
  exact split_glued h.1 fun w hw m => (h.2 w hw 32 m).1 rfl
def RowsAt (H : Hp) (wss : List (List Str)) (ps : List Addr) : Prop := ps.length = wss.length ∧ ∀ (i : Nat) ws, wss[i]? = some ws → ∃ a, ps[i]? = some a ∧ H a = some (.lst (ws.map V.str))
theorem RowsAt.same {H H' : Hp} {wss : List (List Str)} {ps : List Addr} (h : RowsAt H wss ps) (s : Same H H') : RowsAt H' wss ps := ⟨h.1, fun i ws e => let ⟨a, e1, l⟩ := h.2 i ws e; ⟨a, e1, s _ _ l⟩⟩
theorem RowsAt.snoc {H : Hp} {wss : List (List Str)} {ps : List Addr} {ws : List Str} {a : Addr} (h : RowsAt H wss ps) (g : H a = some (.lst (ws.map V.str))) : RowsAt H (wss ++ [ws]) (ps ++ [a]) := by
  refine ⟨by simp [h.1], fun i d' e => ?_⟩
  rcases Nat.lt_trichotomy i wss.length with hi | hi | hi
  · rw [List.getElem?_append_left hi] at e
    obtain ⟨b, e1, l⟩ := h.2 i d' e
    exact ⟨b, by rw [List.getElem?_append_left (by rw [h.1]; exact hi)]; exact e1, l⟩
  · subst hi
    rw [List.getElem?_append_right (Nat.le_refl _), Nat.sub_self] at e
    cases (Option.some.inj e)
    exact ⟨a, by rw [List.getElem?_append_right (by rw [h.1]; exact Nat.le_refl _), h.1, Nat.sub_self]; rfl, g⟩
  · rw [List.getElem?_eq_none (by simp; omega)] at e; cases e
theorem sml_opt {n : Int} (h0 : 0 ≤ n) (h1 : n < 1000) : optN (figI (sI n).cps.toList 3) = V.int n := by
  unfold sI
  rw [txt_is, optN_is, txt_sml]
  unfold smlI
  rw [if_pos ⟨h0, by omega⟩]; rfl
theorem num_opt {n : Int} (h0 : -9223372036854775808 ≤ n) (h1 : n ≤ 9223372036854775807) : optV (numI (sI n).cps.toList) = V.int n := by
  unfold sI
  rw [txt_is, txt_num (by omega)]
  unfold rngI
  rw [if_pos ⟨h0, h1⟩]; rfl
theorem sI_low {n : Int} (h : n.natAbs < 10 ^ 20) : lowS (sI n) := txt_low n h
def PtOk (kvs : List (Key × V)) (kind w : Str) (v : V) : Prop := (kind = "step" ∧ ∃ u : Nat, valV kvs (Sum.inr w : Key) = some (.int (u : Int)) ∧ v = .int (u : Int)) ∨ (kind = "word" ∧ nameOk w ∧ v = .str w) ∨
  (kind = "number" ∧ ∃ n : Int, w = sI n ∧ -9223372036854775808 ≤ n ∧ n ≤ 9223372036854775807 ∧ v = .int n) ∨ (kind = "small" ∧ ∃ n : Int, w = sI n ∧ 0 ≤ n ∧ n < 1000 ∧ v = .int n)
theorem abc_in : ∀ c : Fin 26, (!(Builtin.Str.occurrences "abcdefghijklmnopqrstuvwxyz" ⟨#[97 + c.val]⟩ 0 ("abcdefghijklmnopqrstuvwxyz" : Str).length 1).isEmpty) = true := by decide +kernel
theorem forms_end : ∀ (kd : Fin 15) (i : Fin 5), ((formsL.getD kd.val ("", [])).2.getD i.val ("", 0)).1 = "sides" → i.val + 1 = (formsL.getD kd.val ("", [])).2.length := by decide +kernel
theorem drop_flat {ls : List (List Str)} {j : Nat} {ws : List Str} (h : ls[j]? = some ws) : (ls.drop j).flatten = ws ++ (ls.drop (j + 1)).flatten := by
  have hl := (List.getElem?_eq_some_iff.mp h).1
  rw [List.drop_eq_getElem_cons hl, List.flatten_cons, (List.getElem?_eq_some_iff.mp h).2]
theorem cut_3 (a b c : Str) (r : List Str) : cutV (([a, b, c] ++ r).map V.str) (some 3) none = r.map V.str := by
  unfold cutV
  simp only [HT.sIx]
  rw [if_neg (by decide)]
  simp
  exact List.take_of_length_le (by simp)
theorem cut_1 (a : Str) (r : List Str) : cutV ((a :: r).map V.str) (some 1) none = r.map V.str := by
  unfold cutV
  simp only [HT.sIx]
  rw [if_neg (by decide)]
  simp
  exact List.take_of_length_le (by simp)
def trueL (i : Nat) : List Bool := List.replicate i true
theorem true_snoc (i : Nat) : (trueL (i + 1)).map V.bl = (trueL i).map V.bl ++ [V.bl true] := by unfold trueL; rw [List.replicate_succ', List.map_append]; rfl
theorem true_len (i : Nat) : (trueL i).length = i := List.length_replicate ..
theorem rep_one {α : Type} (a : α) : ∀ n : Nat, (List.replicate n [a]).flatten = List.replicate n a
  | 0 => rfl
  | n + 1 => by rw [List.replicate_succ, List.flatten_cons, rep_one a n, List.replicate_succ]; rfl
theorem al_ints {H : Hp} {d : Nat} : ∀ (os : List Nat), AlL H (d + 1) (os.map fun (o : Nat) => V.int (o : Int)) (os.map fun (o : Nat) => V.int (o : Int))
  | [] => trivial
  | o :: os => ⟨Or.inl ⟨_, rfl, rfl⟩, al_ints os⟩
theorem al_strs {H : Hp} {d : Nat} : ∀ (os : List Str), AlL H (d + 1) (os.map V.str) (os.map V.str)
  | [] => trivial
  | o :: os => ⟨Or.inr (.inl ⟨_, rfl, rfl⟩), al_strs os⟩
theorem sd_al {H : Hp} {d : Sd} {a b : Addr} (hd : d.kd < 15) (h : SdAt H d a) (g : SdAt H d b) : AlAt H 3 (.ref a) (.ref b) := by
  obtain ⟨ra, h1, h2⟩ := h
  obtain ⟨rb, g1, g2⟩ := g
  have l : (stV d ra).length ≤ 1000 := by rw [st_len ra hd]; have := forms_l5 d; omega
  exact .tup h1 g1 l (step_al hd h2 g2 (by have := (row_sm d.c).1; omega) ..)
theorem prog_al {H : Hp} {p q : Addr} {ds : List Sd} {os : List Nat} (h : ProgAt H p ds os) (g : ProgAt H q ds os) : AlAt H 5 (.ref p) (.ref q) := by
  obtain ⟨st, ou, as, h1, h2, h3, h4, h5, h6, h7, h8, h9, _⟩ := h
  obtain ⟨st', ou', as', g1, g2, g3, g4, _⟩ := g
  refine .tup h1 g1 (by simp) ⟨Or.inr (.inr ⟨st, st', _, _, rfl, rfl, h2, g2, by simp [h3.1, g3.1], by rw [List.length_map, h3.1]; omega, fun i x y e1 e2 => ?_⟩), .tup h4 g4 (by rw [List.length_map]; omega) (al_ints os), trivial⟩
  rw [List.getElem?_map] at e1 e2
  have il : i < ds.length := by
    rw [← h3.1]
    cases ea : as[i]? with
    | none => rw [ea] at e1; cases e1
    | some a => exact (List.getElem?_eq_some_iff.mp ea).1
  obtain ⟨a, ea, sa⟩ := h3.2 i _ (List.getElem?_eq_getElem il)
  obtain ⟨b, eb, sb⟩ := g3.2 i _ (List.getElem?_eq_getElem il)
  rw [ea] at e1; rw [eb] at e2
  cases (Option.some.inj e1); cases (Option.some.inj e2)
  exact sd_al (h7 _ (List.getElem_mem il)).1 sa sb
def nA (way fill step k : Nat) : List Nat := if way = 1 then List.replicate (k % 8) (97 + fill) ++ [97 + (step + k / 8) % 26] else (plainF k).cps.toList
def nB (way fill spot step k : Nat) : List Nat := if way = 2 ∨ way = 3 then List.replicate spot (97 + fill) ++ [97 + (step + k) % 26, 97 + k / 26] ++ List.replicate (6 - spot) (97 + fill) else nA way fill step k
theorem app_strL (a b : List Nat) : strL a ++ strL b = strL (a ++ b) := by unfold strL; show (⟨a.toArray ++ b.toArray⟩ : Str) = _; rw [List.append_toArray]
theorem len_strL (a : List Nat) : (strL a).length = a.length := by show a.toArray.size = _; simp
theorem len_rep1 (n : Nat) (a : Nat) : (strL (List.replicate n [a]).flatten).length = n := by rw [len_strL, rep_one, List.length_replicate]
theorem nameOk.nm {nm : List Str} (g : nmGood nm) (l : nm.length ≤ 40) : nmOk nm := ⟨l, fun x hx => by have := (g.1 x hx).len; omega⟩
theorem text_short {H : Hp} {ds : List Sd} {os : List Nat} {nm : List Str} {as : List Addr} (sd : SdsAt H ds as) (dk : ∀ d ∈ ds, SdOk ds.length d) (nl : nm.length = ds.length) (n : nmOk nm) (o8 : os.length ≤ 8) (ob : ∀ o ∈ os, o < ds.length) : ∀ x ∈ textL ds os nm, x.length ≤ 5000 := fun x hx => by
  rcases List.mem_append.mp hx with hx | hx
  · obtain ⟨i, hi, rfl⟩ := List.mem_map.mp hx
    have hi := List.mem_range.mp hi
    have gi : ds[i]? = some (ds.getD i ⟨0, 0, 0, 0, 0⟩) := by rw [List.getD_eq_getElem?_getD, List.getElem?_eq_getElem hi]; rfl
    obtain ⟨b, _, db⟩ := sd.2 i _ gi
    exact row_len (by rw [nl]; exact dk _ (List.mem_of_getElem? gi)) n db (n.2 _ (List.mem_of_getElem? (getS (by omega))))
  · cases List.mem_singleton.mp hx
    exact Nat.le_trans (glued_len _ _) (Nat.le_trans (out_len n o8 fun o ho => by rw [nl]; exact ob o ho) (by decide))
theorem cut_m1 (xs : List V) : cutV xs none (some (-1)) = xs.take (xs.length - 1) := by
  unfold cutV
  simp only [HT.sIx]
  rcases Nat.eq_zero_or_pos xs.length with h | h
  · have : xs = [] := List.eq_nil_of_length_eq_zero h
    subst this; rfl
  · rw [List.drop_zero]
    congr 1
    split <;> omega
theorem at_m1 {xs : List V} {n : Nat} {v : V} (l : xs.length = n + 1) (h : xs[n]? = some v) : atI xs (-1) = some v := by
  unfold atI
  rw [show ixN xs.length (-1) = some n from by rw [l]; unfold ixN; simp; omega]
  exact h
theorem take_snoc {ds : List Sd} {i : Nat} (h : i < ds.length) : ds.take (i + 1) = ds.take i ++ [ds.getD i ⟨0, 0, 0, 0, 0⟩] := by
  rw [List.take_add_one, List.getD_eq_getElem?_getD, List.getElem?_eq_getElem h]; rfl
theorem SdAt.upd {H : Hp} {d : Sd} {a l : Addr} {o : HO} (h : SdAt H d a) (n : ∀ xs, H l ≠ some (.tup xs)) : SdAt (upd H l o) d a := by
  obtain ⟨ra, h1, h2⟩ := h
  exact ⟨ra, by rw [upd_ne (fun z => n _ (z ▸ h1))]; exact h1, by rw [upd_ne (fun z => n _ (z ▸ h2))]; exact h2⟩
theorem SdsAt.upd {H : Hp} {ds : List Sd} {as : List Addr} {l : Addr} {o : HO} (h : SdsAt H ds as) (n : ∀ xs, H l ≠ some (.tup xs)) : SdsAt (L2.upd H l o) ds as := ⟨h.1, fun i d e => let ⟨a, e1, g⟩ := h.2 i d e; ⟨a, e1, g.upd n⟩⟩
theorem pe_never {X : Cx} {e : Expr} : PE X e (fun _ _ _ => False) := fun _ _ _ _ _ _ h => h.elim
abbrev spartsof : Stmt := top 10
def sppartsof : PySem.W.Frag → Sp := fun K => fun vs H Q _ => ∃ i : Nat, i < 15 ∧ vs = [.str (kindS i)] ∧ ∀ a xs, KTup K a xs → ItemsAll K (formsL.getD i ("", [])).2 xs → Q (.ref a) H
section
variable {P : Program} {w : World} {K : PySem.W.Frag} {mg : Str → Option Value} {base : Heap} {f : Addr} {fd : FuncData}
theorem scpartsof : FnScope ["form"] ["form"] (defScope spartsof) := ⟨rfl, rfl, rfl, by decide +kernel, rfl, by decide +kernel, by decide +kernel⟩
theorem okpartsof (F : Fun K "parts_of" "parts_of" spartsof f fd) {dPARTS : Addr} (gPARTS : mg "PARTS" = some (.ref dPARTS)) (TP : PartsOk P w K dPARTS) : FnOk P w K mg base CX0 (1) f fd ["form"] (sppartsof K) := by
  have sc := scpartsof
  refine F.ok sc (fun vs H Q E h => ?_) (fun cdv A outer s H vs Q E hr h => ?_)
  · obtain ⟨i, _, rfl, _⟩ := h; rfl
  obtain ⟨kvs, TK, TF⟩ := TP
  obtain ⟨i, hi, rfl, q⟩ := h
  refine ⟨_, (pss_one (ps_ret (pe_ktab (by rfl) gPARTS TK (pv 0) (fun _ _ => rfl)))), ?_⟩
  wp_walk using tSeq, tyS, inV, eqV
  obtain ⟨a, xs, e1, e2, e3⟩ := parts_look TF (forms_at hi)
  exact ⟨a, e1, q a xs e2 e3⟩
end
abbrev spartwords : Stmt := top 14
def sppartwords : Sp := fun vs H Q _ => ∃ (kind : Str) (part : V) (na : Addr) (nm ws : List Str), vs = [.str kind, part, .ref na] ∧ NmAt H na nm ∧ PwOk H nm kind part ws ∧ ∀ H' p, Same H H' → H p = none → H' p = some (.lst (ws.map V.str)) → Q (.ref p) H'
section
variable {P : Program} {w : World} {K : PySem.W.Frag} {mg : Str → Option Value} {base : Heap} {f : Addr} {fd : FuncData}
theorem scpartwords : FnScope ["kind", "part", "names"] ["kind", "part", "names"] (defScope spartwords) := ⟨rfl, rfl, rfl, by decide +kernel, rfl, by decide +kernel, by decide +kernel⟩
theorem okpartwords (F : Fun K "part_words" "part_words" spartwords f fd) (zstr : mg "str" = none) : FnOk P w K mg base CX0 (1) f fd ["kind", "part", "names"] (sppartwords) := by
  have sc := scpartwords
  refine F.ok sc (fun vs H Q E h => ?_) (fun cdv A outer s H vs Q E hr h => ?_)
  · obtain ⟨kind, part, na, nm, ws, rfl, _⟩ := h; rfl
  obtain ⟨kind, part, na, nm, ws, rfl, hn, pw, q⟩ := h
  refine ⟨_, (pss_cons (ps_if (pt_cmpR op_eq (pv 0) pe_str (nomark _)) (pss_one (ps_ret (pe_lst (pa_cons (pe_ix ix_seqH (pv 2) (pv 1) (fun _ _ => rfl)) pa_nil)))) pss_nil) (pss_cons (ps_if (pt_cmpR op_eq (pv 0) pe_str (nomark _)) (pss_one (ps_ret (pe_comp0 (own := ["number"]) rfl (pi_tup (pv 1)) (by decide) (by decide) rfl (by decide) (fun _ _ _ _ => (pg_name (i := 0) (show (["number"] : List Str).Nodup by decide +kernel) rfl (Or.inl rfl))) (fun _ _ _ _ => (pe_callTy call_strI (by rfl) zstr boot_str (pa_cons (pv 0) pa_nil)))))) pss_nil) (pss_one (ps_ret (pe_lst (pa_cons (pe_callTy call_strV (by rfl) zstr boot_str (pa_cons (pv 1) pa_nil)) pa_nil)))))), ?_⟩
  rcases pw with ⟨rfl, u, x, rfl, hx, rfl⟩ | ⟨rfl, a, row, rfl, ha, sm, rfl⟩ | ⟨n1, n2, pw⟩
  · wp_walk using tSeq, tyS, inV, eqV
    have e : atI (nm.map V.str) (u : Int) = some (.str x) := atI_nat (by rw [List.getElem?_map, hx]; rfl)
    have hn := hn
    unfold NmAt at hn
    exact ⟨_, hn, _, e, small (by decide), fun p hp => q _ _ (same_new hp _) hp upd_same⟩
  · wp_walk using tSeq, tyS, inV, eqV
    rw [if_neg (by decide +kernel)]
    refine CompT.mk (xs := row.map V.int) (.of ha) (fun i ys σ H2 => H2 = H ∧ ys = ((row.take i).map sI).map V.str ∧ ∃ y, σ = [y]) ⟨rfl, rfl, _, rfl⟩ (fun i ys σ H2 _ h => by rw [h.1]; exact .of ha) (fun i x ys σ H2 e h => ?_) (fun ys σ H2 h p2 hp2 => ?_)
    · obtain ⟨rfl, rfl, y, rfl⟩ := h
      obtain ⟨n, hn2, rfl⟩ := getmap e
      have b := sm.2 n (List.mem_of_getElem? hn2)
      refine ⟨by rw [List.length_map, List.length_map, List.length_take]; have := sm.1; exact small1000 (by omega), ?_⟩
      wp_walk using tSeq, tyS, inV, eqV
      exact ⟨log_20 (by omega), by rw [List.take_add_one, hn2, List.map_append, List.map_append]; rfl, _, rfl⟩
    · obtain ⟨rfl, rfl, y, rfl⟩ := h
      rw [len_map, List.take_length]
      exact q _ _ (same_new hp2 _) hp2 upd_same
  · wp_walk using tSeq, tyS, inV, eqV
    rw [if_neg n1, if_neg n2]
    rcases pw with ⟨n, rfl, b, rfl⟩ | ⟨t, rfl, b, rfl⟩
    · exact ⟨_, .inl ⟨n, rfl, log_20 b, rfl⟩, small (by decide), fun p hp => q _ _ (same_new hp _) hp upd_same⟩
    · exact ⟨_, .inr rfl, small (by decide), fun p hp => q _ _ (same_new hp _) hp upd_same⟩
end
abbrev ssteprow : Stmt := top 15
def spsteprow : Sp := fun vs H Q _ => ∃ (name : Str) (a na : Addr) (d : Sd) (nm : List Str), vs = [.str name, .ref a, .ref na] ∧ SdAt H d a ∧ SdOk nm.length d ∧ NmAt H na nm ∧ nmOk nm ∧ name.length ≤ 20 ∧ ∀ H', Same H H' → Q (.str (rowS d name nm)) H'
section
variable {P : Program} {w : World} {K : PySem.W.Frag} {mg : Str → Option Value} {base : Heap} {f : Addr} {fd : FuncData}
theorem scsteprow : FnScope ["name", "step", "names", "words", "kind", "place"] ["name", "step", "names"] (defScope ssteprow) := ⟨rfl, rfl, rfl, by decide +kernel, rfl, by decide +kernel, by decide +kernel⟩
theorem oksteprow (F : Fun K "step_row" "step_row" ssteprow f fd) (cpartsof : Callee P w K mg base CX0 (1) "parts_of" ["form"] (sppartsof K)) (cpartwords : Callee P w K mg base CX0 (1) "part_words" ["kind", "part", "names"] sppartwords) : FnOk P w K mg base CX0 (2) f fd ["name", "step", "names"] (spsteprow) := by
  have sc := scsteprow
  refine F.ok sc (fun vs H Q E h => ?_) (fun cdv A outer s H vs Q E hr h => ?_)
  · obtain ⟨name, a, na, d, nm, rfl, _⟩ := h; rfl
  obtain ⟨name, a, na, d, nm, rfl, ⟨ra, ha, hra⟩, ok, hn, no, nl, q⟩ := h
  refine ⟨_, (pss_cons (ps_set (i := 3) sc.nd rfl (by first | exact Or.inl rfl | exact Or.inr rfl) (pe_lst (pa_cons (pv 0) (pa_cons pe_str (pa_cons (pe_ix ix_tupH (pv 1) pe_int (fun _ _ => rfl)) pa_nil))))) (pss_cons (ps_for PassesOwn.never rfl (pi_tup (pe_cal cpartsof hr (by rfl) pass0 (pa_cons (pe_ix ix_tupH (pv 1) pe_int (fun _ _ => rfl)) pa_nil))) (pg_tupK (K := K) (n := 2) rfl (pg_tup rfl (pgs_cons (pg_name (i := 4) sc.nd rfl (Or.inl rfl)) (pgs_cons (pg_name (i := 5) sc.nd rfl (Or.inl rfl)) pgs_nil)))) (pss_one (ps_expr (pe_bm PySem.F.plainAttrs_list PySem.F.slot_list_extend PySem.F.type_list_extend mr_extend (pv 3) (pa_cons (pe_cal cpartwords hr (by rfl) pass0 (pa_cons (pv 4) (pa_cons (pe_ix ix_tupH (pv 1) (pv 5) (fun _ _ => rfl)) (pa_cons (pv 2) pa_nil)))) pa_nil))))) (pss_one (ps_ret (pe_bm PySem.F.plainAttrs_str PySem.F.slot_str_join PySem.F.type_str_join mt_joinW pe_str (pa_cons (pv 3) pa_nil)))))), ?_⟩
  simp only [L2.start, List.length_cons, List.length_nil, List.replicate, List.cons_append, List.nil_append, Nat.reduceSub, Nat.reduceAdd, List.map_cons, List.map_nil]
  have hd : (stV d ra)[0]? = some (.str (kindS d.kd)) := step_head ok.1 ..
  refine seq_with (fun σ H1 => ∃ l, σ = [some (.str name), some (.ref a), some (.ref na), some (.ref l), none, none] ∧ H l = none ∧ Same H H1 ∧ H1 l = some (.lst (([name, "=", kindS d.kd] : List Str).map V.str))) ?_ (fun R hR => ?_)
  rotate_left
  · wp_walk using tSeq, tyS, inV, eqV
    exact ⟨_, ha, _, atI_nat hd, small (by decide), fun p hp => hR _ _ ⟨p, rfl, hp, same_new hp _, upd_same⟩⟩
  rintro σ1 H1 ⟨l, rfl, hl0, s1, hl⟩
  refine seq_with (fun σ H2 => ∃ y4 y5, σ = [some (.str name), some (.ref a), some (.ref na), some (.ref l), y4, y5] ∧ Same H H2 ∧ H2 l = some (.lst ((([name, "=", kindS d.kd] : List Str) ++ wordsF d nm).map V.str))) ?_ (fun R hR => ?_)
  rotate_left
  · wp_walk using tSeq, tyS, inV, eqV, sppartsof
    refine ⟨_, s1 _ _ ha, _, atI_nat hd, d.kd, ok.1, rfl, fun pa xs kt it => ?_⟩
    obtain ⟨l3, at3⟩ := items_at it
    refine LoopT.mk (xs := xs) kt.sq (fun i σ H2 => ∃ y4 y5, σ = [some (.str name), some (.ref a), some (.ref na), some (.ref l), y4, y5] ∧ Same H H2 ∧ H2 l = some (.lst ((([name, "=", kindS d.kd] : List Str) ++ ((partsL d nm).take i).flatten).map V.str))) ⟨_, _, rfl, s1, by rw [hl]; simp⟩ (fun i σ H2 _ h => kt.sq) (fun i x σ H2 e h => ?_) (fun σ H2 h => ?_)
    · obtain ⟨y4, y5, rfl, s2, h2⟩ := h
      obtain ⟨f, b, ef, rfl, kb⟩ := at3 e
      obtain ⟨x, ws, e1, e2, pw⟩ := part_at (H := H2) ok (s2 _ _ hra) i f ef
      wp_walk using tSeq, tyS, inV, eqV, sppartwords
      refine ⟨_, kb.sq, rfl, _, _, rfl, _, _, rfl, rfl, .inl ⟨_, .of h2⟩, _, f.2, rfl, s2 _ _ ha, x, e1, f.1, rfl, nm, hn.same s2, ws, pw, fun H3 p s3 hp h3 => ?_⟩
      have few := flat_few ok no (s2 _ _ hra) i
      have few2 := (pw.len no).1
      refine ⟨_, s3 _ _ h2, _, h3, by simp only [List.length_map, List.length_append, List.length_cons, List.length_nil]; exact small (by omega), fun b' o' e' => ?_, ?_⟩
      · rw [upd_ne (fun z => by rw [z, hl0] at e'; cases e')]; exact (s2.trans s3) _ _ e'
      · rw [flat_snoc e2, List.map_append, List.map_append, List.append_assoc]; rfl
    · obtain ⟨y4, y5, rfl, s2, h2⟩ := h
      rw [l3, ← parts_n ok.1 (nm := nm), List.take_length] at h2
      exact hR _ _ ⟨y4, y5, rfl, s2, h2⟩
  rintro σ2 H2 ⟨y4, y5, rfl, s2, h2⟩
  wp_walk using tSeq, tyS, inV, eqV
  exact ⟨_, .of h2, Nat.le_trans (tot_words (H := H) ok no hra (by omega) (by decide +kernel) (kindS_len ok.1)) (by decide), q _ s2⟩
end
abbrev sisform : Stmt := top 9
def spisform : Sp := fun vs H Q _ => ∃ i : Nat, i < 15 ∧ vs = [.str (kindS i)] ∧ Q (.bl true) H
section
variable {P : Program} {w : World} {K : PySem.W.Frag} {mg : Str → Option Value} {base : Heap} {f : Addr} {fd : FuncData}
theorem scisform : FnScope ["word"] ["word"] (defScope sisform) := ⟨rfl, rfl, rfl, by decide +kernel, rfl, by decide +kernel, by decide +kernel⟩
theorem okisform (F : Fun K "is_form" "is_form" sisform f fd) {dPARTS : Addr} (gPARTS : mg "PARTS" = some (.ref dPARTS)) (TP : PartsOk P w K dPARTS) : FnOk P w K mg base CX0 (1) f fd ["word"] (spisform) := by
  have sc := scisform
  refine F.ok sc (fun vs H Q E h => ?_) (fun cdv A outer s H vs Q E hr h => ?_)
  · obtain ⟨i, _, rfl, _⟩ := h; rfl
  obtain ⟨kvs, TK, TF⟩ := TP
  obtain ⟨i, hi, rfl, q⟩ := h
  refine ⟨_, (pss_one (ps_ret (pe_cmp (pc_kin (by rfl) gPARTS TK (pv 0)) rfl))), ?_⟩
  wp_walk using tSeq, tyS, inV, eqV
  obtain ⟨a, xs, e1, e2, e3⟩ := parts_look TF (forms_at hi)
  rw [e1]
  exact q
end
abbrev sismadeof : Stmt := top 21
def spismadeof : Sp := fun vs H Q _ => ∃ (x sg : Str) (most : Int), vs = [.str x, .str sg, .int most] ∧ lowS x ∧ ((sg = "0123456789" ∧ ∀ H', Same H H' → Q (.bl (madeB x.cps.toList most)) H') ∨ (sg = "abcdefghijklmnopqrstuvwxyz" ∧ most = 8 ∧ nameOk x ∧ ∀ H', Same H H' → Q (.bl true) H'))
section
variable {P : Program} {w : World} {K : PySem.W.Frag} {mg : Str → Option Value} {base : Heap} {f : Addr} {fd : FuncData}
theorem scismadeof : FnScope ["word", "signs", "most"] ["word", "signs", "most"] (defScope sismadeof) := ⟨rfl, rfl, rfl, by decide +kernel, rfl, by decide +kernel, by decide +kernel⟩
theorem okismadeof (F : Fun K "is_made_of" "is_made_of" sismadeof f fd) (zlen : mg "len" = none) (zall : mg "all" = none) : FnOk P w K mg base CX0 (1) f fd ["word", "signs", "most"] (spismadeof) := by
  have sc := scismadeof
  refine F.ok sc (fun vs H Q E h => ?_) (fun cdv A outer s H vs Q E hr h => ?_)
  · obtain ⟨x, sg, most, rfl, _⟩ := h; rfl
  obtain ⟨x, sg, most, rfl, hx, hq⟩ := h
  refine ⟨_, (pss_one (ps_ret (pe_and (pe_chain op_le op_le pe_int (pe_callB call_len_str (by rfl) zlen PySem.boot_len (pa_cons (pv 0) pa_nil)) (pv 2)) (pe_one (pe_callB (call_allB rfl) (by rfl) zall boot_all (pa_cons (pe_comp (own := ["sign"]) (fv := ["signs"]) (js := [1]) rfl (pi_str (pv 0)) rfl (by decide) rfl (by decide) (by first | exact fun _ _ h => h | exact cl_sub1 rfl | exact cl_sub2 rfl rfl | exact cl_sub3 rfl rfl rfl) (has_of (by rfl)) rfl (cap1 (by first | exact ⟨rfl, .inl rfl, .inl rfl⟩ | exact ⟨rfl, .inl rfl, .inr rfl⟩)) (fun _ _ _ _ => (pg_name (i := 0) (show (["sign", "signs"] : List Str).Nodup by decide +kernel) rfl (Or.inl rfl))) (fun _ _ _ _ => (pe_cmpR op_in_str (pv 0) (pv 1) rfl))) pa_nil)))))), ?_⟩
  rcases hq with ⟨rfl, q⟩ | ⟨rfl, rfl, ok, q⟩
  · wp_walk using tSeq, tyS, inV, eqV
    have xl : x.length = x.cps.toList.length := Array.length_toList.symm
    have xs := hx.1
    have e0 : x.cps.toList.length ≤ 100 := by rw [Array.length_toList]; exact xs
    rw [xl]
    unfold madeB at q
    refine ⟨small (by omega), ?_⟩
    by_cases c1 : (1 : Int) ≤ (x.cps.toList.length : Nat)
    · rw [if_pos c1]
      rw [decide_eq_true c1, Bool.true_and] at q
      by_cases c2 : ((x.cps.toList.length : Nat) : Int) ≤ most
      · rw [if_pos c2]
        rw [decide_eq_true c2, Bool.true_and] at q
        refine CompX.mk (fun i ys σ H' => H' = H ∧ ys = ((x.cps.toList.take i).map digB).map V.bl ∧ ∃ y, σ = [y, some (.str (Str.ofString "0123456789"))]) ⟨rfl, rfl, _, rfl⟩ (fun i c ys σ H' e h => ?_) (fun ys σ H' h p hp => ?_)
        · obtain ⟨rfl, rfl, y, rfl⟩ := h
          have e' : x.cps.toList[i]? = some c := by rw [Array.getElem?_toList]; exact e
          have cl := hx.2 c (List.mem_of_getElem? e')
          have fi := fig_in ⟨c, cl⟩
          simp only at fi
          have e1 : ((x.cps.toList.take (i + 1)).map digB).map V.bl = ((x.cps.toList.take i).map digB).map V.bl ++ [V.bl (digB c)] := by
            rw [List.take_add_one, e', List.map_append, List.map_append]; rfl
          have sm : (((x.cps.toList.take i).map digB).map V.bl).length < sizeLine := by rw [List.length_map, List.length_map, List.length_take]; exact small1000 (by omega)
          wp_walk using tSeq, tyS, inV, eqV, e1, fi
          exact ⟨sm, _, rfl⟩
        · obtain ⟨rfl, rfl, y, rfl⟩ := h
          rw [← Array.length_toList, List.take_length]
          refine ⟨p, rfl, _, .of upd_same, ?_⟩
          rw [List.all_map, show (id ∘ digB) = digB from rfl]
          exact q _ (same_new hp _)
      · rw [if_neg c2]
        rw [decide_eq_false c2, Bool.false_and] at q
        exact q _ (Same.refl _)
    · rw [if_neg c1]
      rw [decide_eq_false c1, Bool.false_and] at q
      exact q _ (Same.refl _)
  · wp_walk using tSeq, tyS, inV, eqV
    have xl := str_len x
    have o1 := ok.1
    have o2 := ok.2.1
    refine ⟨small (by omega), ?_⟩
    rw [if_pos (by omega), if_pos (by omega)]
    refine CompX.mk (fun i ys σ H' => H' = H ∧ ys = (trueL i).map V.bl ∧ i ≤ 8 ∧ ∃ y, σ = [y, some (.str (Str.ofString "abcdefghijklmnopqrstuvwxyz"))]) ⟨rfl, rfl, by omega, _, rfl⟩ (fun i c ys σ H' e h => ?_) (fun ys σ H' h p hp => ?_)
    · obtain ⟨rfl, rfl, i8, y, rfl⟩ := h
      have e' : x.cps.toList[i]? = some c := by rw [Array.getElem?_toList]; exact e
      have il := (List.getElem?_eq_some_iff.mp e').1
      have cl := ok.2.2 c (List.mem_of_getElem? e')
      obtain ⟨d, rfl⟩ : ∃ d, c = 97 + d := ⟨c - 97, by omega⟩
      have fi := abc_in ⟨d, by omega⟩
      simp only at fi
      have sm : ((trueL i).map V.bl).length < sizeLine := by rw [List.length_map, true_len]; exact small1000 (by omega)
      wp_walk using tSeq, tyS, inV, eqV, true_snoc, fi
      exact ⟨sm, by omega, _, rfl⟩
    · obtain ⟨rfl, rfl, i8, y, rfl⟩ := h
      refine ⟨p, rfl, _, .of upd_same, ?_⟩
      rw [show (trueL x.cps.size).all id = true from List.all_eq_true.mpr fun b hb => (List.mem_replicate.mp hb).2]
      exact q _ (same_new hp _)
end
abbrev sisname : Stmt := top 22
def spisname : Sp := fun vs H Q _ => ∃ x : Str, vs = [.str x] ∧ nameOk x ∧ ∀ H', Same H H' → Q (.bl true) H'
section
variable {P : Program} {w : World} {K : PySem.W.Frag} {mg : Str → Option Value} {base : Heap} {f : Addr} {fd : FuncData}
theorem scisname : FnScope ["word"] ["word"] (defScope sisname) := ⟨rfl, rfl, rfl, by decide +kernel, rfl, by decide +kernel, by decide +kernel⟩
theorem okisname (F : Fun K "is_name" "is_name" sisname f fd) (cismadeof : Callee P w K mg base CX0 (1) "is_made_of" ["word", "signs", "most"] spismadeof) {tLETTERS : Tok} (gLETTERS : mg "LETTERS" = some (.str "abcdefghijklmnopqrstuvwxyz" tLETTERS)) {tMOST_LETTERS : Tok} (gMOST_LETTERS : mg "MOST_LETTERS" = some (.int 8 tMOST_LETTERS)) : FnOk P w K mg base CX0 (2) f fd ["word"] (spisname) := by
  have sc := scisname
  refine F.ok sc (fun vs H Q E h => ?_) (fun cdv A outer s H vs Q E hr h => ?_)
  · obtain ⟨x, rfl, _⟩ := h; rfl
  obtain ⟨x, rfl, ok, q⟩ := h
  refine ⟨_, (pss_one (ps_ret (pe_cal cismadeof hr (by rfl) pass0 (pa_cons (pv 0) (pa_cons (pe_glob (v := .str "abcdefghijklmnopqrstuvwxyz") (by rfl) gLETTERS ⟨_, rfl⟩) (pa_cons (pe_glob (v := .int 8) (by rfl) gMOST_LETTERS ⟨_, rfl⟩) pa_nil)))))), ?_⟩
  wp_walk using tSeq, tyS, inV, eqV, spismadeof
  exact ⟨ok.low, .inr ⟨ok, q⟩⟩
end
abbrev sfiguresof : Stmt := top 23
def spfiguresof : Sp := fun vs H Q _ => ∃ (x : Str) (most : Int), vs = [.str x, .int most] ∧ lowS x ∧ ∀ H', Same H H' → Q (optN (figI x.cps.toList most)) H'
section
variable {P : Program} {w : World} {K : PySem.W.Frag} {mg : Str → Option Value} {base : Heap} {f : Addr} {fd : FuncData}
theorem scfiguresof : FnScope ["word", "most"] ["word", "most"] (defScope sfiguresof) := ⟨rfl, rfl, rfl, by decide +kernel, rfl, by decide +kernel, by decide +kernel⟩
theorem okfiguresof (F : Fun K "figures_of" "figures_of" sfiguresof f fd) (cismadeof : Callee P w K mg base CX0 (1) "is_made_of" ["word", "signs", "most"] spismadeof) (zlen : mg "len" = none) (zint : mg "int" = none) {tFIGURES : Tok} (gFIGURES : mg "FIGURES" = some (.str "0123456789" tFIGURES)) : FnOk P w K mg base CX0 (2) f fd ["word", "most"] (spfiguresof) := by
  have sc := scfiguresof
  refine F.ok sc (fun vs H Q E h => ?_) (fun cdv A outer s H vs Q E hr h => ?_)
  · obtain ⟨x, most, rfl, _⟩ := h; rfl
  obtain ⟨x, most, rfl, hx, q⟩ := h
  refine ⟨_, (pss_cons (ps_if (pt_not (pt_val (pe_cal cismadeof hr (by rfl) pass0 (pa_cons (pv 0) (pa_cons (pe_glob (v := .str "0123456789") (by rfl) gFIGURES ⟨_, rfl⟩) (pa_cons (pv 1) pa_nil)))))) (pss_one (ps_ret pe_non)) pss_nil) (pss_cons (ps_if (pw_and (pt_cmpR op_eq (pe_item_str (pv 0) pe_int (fun _ _ => rfl)) pe_str (nomark _)) (pw_and1 (pt_cmpR op_gt (pe_callB call_len_str (by rfl) zlen PySem.boot_len (pa_cons (pv 0) pa_nil)) pe_int (nomark _)))).pt (pss_one (ps_ret pe_non)) pss_nil) (pss_one (ps_ret (pe_callTy call_intS (by rfl) zint boot_int (pa_cons (pv 0) pa_nil)))))), ?_⟩
  wp_walk using tSeq, tyS, inV, eqV, spismadeof
  have xl : x.length = x.cps.toList.length := Array.length_toList.symm
  have e0 : x.cps.toList.length ≤ 100 := by rw [Array.length_toList]; exact hx.1
  unfold figI at q
  refine ⟨hx, .inl fun H1 s1 => ?_⟩
  cases hm : madeB x.cps.toList most with
  | false =>
    rw [if_pos rfl]
    rw [hm, if_neg (by decide)] at q
    exact q _ s1
  | true =>
    rw [if_neg (by decide)]
    rw [hm, if_pos rfl] at q
    unfold madeB at hm
    simp only [Bool.and_eq_true, decide_eq_true_eq] at hm
    have dg : PySem.NumText.AllDigits x.cps.toList := fun c hc => by have := List.all_eq_true.mp hm.2.2 c hc; simp [digB] at this; exact this
    have ne : x.cps.toList ≠ [] := fun z => by rw [z] at hm; exact absurd hm.1 (by decide)
    have it := PySem.intText_digits dg ne (by omega)
    have fin : ∃ n, intText? x = some n ∧ x.length ≤ 640 ∧ (¬ (x.cps.toList.head? = some 48 ∧ 1 < x.cps.toList.length) → Q (V.int n) H1) := ⟨_, it, by omega, fun nz => by rw [if_neg nz] at q; exact q _ s1⟩
    obtain ⟨c, r, ec⟩ : ∃ c r, x.cps.toList = c :: r := by cases h : x.cps.toList with | nil => exact absurd h ne | cons c r => exact ⟨c, r, rfl⟩
    have e1 : x.cps[0]? = some c := by rw [← Array.getElem?_toList, ec]; rfl
    refine ⟨by rw [xl]; omega, c, e1, ?_⟩
    obtain ⟨n, f1, f2, f3⟩ := fin
    by_cases z : (⟨#[c]⟩ : Str) = Str.ofString "0"
    · rw [if_pos z]
      have z2 := (zero_is c).mp z
      refine ⟨small (by omega), ?_⟩
      by_cases l : (1 : Int) < (x.length : Nat)
      · rw [if_pos l]
        rw [if_pos ⟨by rw [ec, z2]; rfl, by omega⟩] at q
        exact q _ s1
      · rw [if_neg l]
        exact ⟨n, f1, f2, f3 fun w => by have := w.2; omega⟩
    · rw [if_neg z]
      exact ⟨n, f1, f2, f3 fun w => z ((zero_is c).mpr (by have := w.1; rw [ec] at this; injection this))⟩
end
abbrev ssmallof : Stmt := top 24
def spsmallof : Sp := fun vs H Q _ => ∃ (x : Str), vs = [.str x] ∧ lowS x ∧ ∀ H', Same H H' → Q (optN (figI x.cps.toList 3)) H'
section
variable {P : Program} {w : World} {K : PySem.W.Frag} {mg : Str → Option Value} {base : Heap} {f : Addr} {fd : FuncData}
theorem scsmallof : FnScope ["word"] ["word"] (defScope ssmallof) := ⟨rfl, rfl, rfl, by decide +kernel, rfl, by decide +kernel, by decide +kernel⟩
theorem oksmallof (F : Fun K "small_of" "small_of" ssmallof f fd) (cfiguresof : Callee P w K mg base CX0 (2) "figures_of" ["word", "most"] spfiguresof) : FnOk P w K mg base CX0 (3) f fd ["word"] (spsmallof) := by
  have sc := scsmallof
  refine F.ok sc (fun vs H Q E h => ?_) (fun cdv A outer s H vs Q E hr h => ?_)
  · obtain ⟨x, rfl, _⟩ := h; rfl
  obtain ⟨x, rfl, hx, q⟩ := h
  refine ⟨_, (pss_one (ps_ret (pe_cal cfiguresof hr (by rfl) pass0 (pa_cons (pv 0) (pa_cons pe_int pa_nil))))), ?_⟩
  wp_walk using tSeq, tyS, inV, eqV, spfiguresof
  exact ⟨hx, q⟩
end
abbrev snumberof : Stmt := top 25
def spnumberof : Sp := fun vs H Q _ => ∃ (x : Str), vs = [.str x] ∧ lowS x ∧ ∀ H', Same H H' → Q (optV (numI x.cps.toList)) H'
section
variable {P : Program} {w : World} {K : PySem.W.Frag} {mg : Str → Option Value} {base : Heap} {f : Addr} {fd : FuncData}
theorem scnumberof : FnScope ["word", "is_below", "figure", "number"] ["word"] (defScope snumberof) := ⟨rfl, rfl, rfl, by decide +kernel, rfl, by decide +kernel, by decide +kernel⟩
theorem oknumberof (F : Fun K "number_of" "number_of" snumberof f fd) (cfiguresof : Callee P w K mg base CX0 (2) "figures_of" ["word", "most"] spfiguresof) {tLOW : Tok} (gLOW : mg "LOW" = some (.int (-9223372036854775808) tLOW)) {tHIGH : Tok} (gHIGH : mg "HIGH" = some (.int 9223372036854775807 tHIGH)) : FnOk P w K mg base CX0 (3) f fd ["word"] (spnumberof) := by
  have sc := scnumberof
  refine F.ok sc (fun vs H Q E h => ?_) (fun cdv A outer s H vs Q E hr h => ?_)
  · obtain ⟨x, rfl, _⟩ := h; rfl
  obtain ⟨x, rfl, hx, q⟩ := h
  refine ⟨_, (pss_cons (ps_if (pt_cmpR op_eq (pv 0) pe_str (nomark _)) (pss_one (ps_ret pe_non)) pss_nil) (pss_cons (ps_set (i := 1) sc.nd rfl (by first | exact Or.inl rfl | exact Or.inr rfl) (pe_bm PySem.F.plainAttrs_str PySem.F.slot_str_startswith PySem.F.type_str_startswith mt_starts (pv 0) (pa_cons pe_str pa_nil))) (pss_cons (ps_set (i := 2) sc.nd rfl (by first | exact Or.inl rfl | exact Or.inr rfl) (pe_cal cfiguresof hr (by rfl) pass0 (pa_cons (pe_ifExp (pt_val (pv 1)) (pe_slice sl_strX (pv 0) (po_some pe_int) po_none) (pv 0)) (pa_cons pe_int pa_nil)))) (pss_cons (ps_if (pt_cmpR op_isN (pv 2) pe_non (nomark _)) (pss_one (ps_ret pe_non)) pss_nil) (pss_cons (ps_set (i := 3) sc.nd rfl (by first | exact Or.inl rfl | exact Or.inr rfl) (pe_ifExp (pt_val (pv 1)) (pe_un un_neg (pv 2)) (pv 2))) (pss_one (ps_ret (pe_ifExp (pt_chain op_le op_le (pe_glob (v := .int (-9223372036854775808)) (by rfl) gLOW ⟨_, rfl⟩) (pv 3) (pe_glob (v := .int 9223372036854775807) (by rfl) gHIGH ⟨_, rfl⟩)) (pv 3) pe_non)))))))), ?_⟩
  wp_walk using tSeq, tyS, inV, eqV, spfiguresof
  have fin : ∀ (o : Option Nat) (H' : Hp) (f : Int → Int), (∀ n : Nat, o = some n → Q (optV (rngI (f n))) H') → (∀ n : Nat, o = some n → (if -9223372036854775808 ≤ f n then if f n ≤ 9223372036854775807 then Q (V.int (f n)) H' else Q V.non H' else Q V.non H')) := by
    intro o H' f h n e
    have h := h n e
    unfold rngI at h
    by_cases c1 : -9223372036854775808 ≤ f n
    · rw [if_pos c1]
      by_cases c2 : f n ≤ 9223372036854775807
      · rw [if_pos c2]; rw [if_pos ⟨c1, c2⟩] at h; exact h
      · rw [if_neg c2]; rw [if_neg (fun z => c2 z.2)] at h; exact h
    · rw [if_neg c1]; rw [if_neg (fun z => c1 z.1)] at h; exact h
  unfold numI at q
  by_cases c1 : x = Str.ofString "-0"
  · rw [if_pos c1]
    rw [if_pos ((eq_is x).mp c1)] at q
    exact q _ (Same.refl _)
  rw [if_neg c1]
  rw [if_neg (fun z => c1 ((eq_is x).mpr z))] at q
  by_cases c2 : startsB x (Str.ofString "-") = true
  · simp only [if_pos c2]
    rw [if_pos ((starts_is x).mp c2)] at q
    refine ⟨by have := hx.1; show x.cps.size ≤ 20000; omega, low_drop hx, fun H1 s1 => ?_⟩
    rw [slice_1]
    have q := q _ s1
    cases hf : figI (x.cps.toList.drop 1) 19 with
    | none => rw [hf] at q; rw [if_pos (show optN none = V.non from rfl)]; exact q
    | some n =>
      rw [hf] at q
      rw [if_neg (by intro z; cases z)]
      exact ⟨n, rfl, fin (some n) H1 (fun n => -n) (fun m e => by cases e; exact q) n rfl⟩
  · simp only [if_neg c2]
    rw [if_neg (fun z => c2 ((starts_is x).mpr z))] at q
    refine ⟨hx, fun H1 s1 => ?_⟩
    have q := q _ s1
    cases hf : figI x.cps.toList 19 with
    | none => rw [hf] at q; rw [if_pos (show optN none = V.non from rfl)]; exact q
    | some n =>
      rw [hf] at q
      rw [if_neg (by intro z; cases z)]
      have f := fin (some n) H1 (fun n => n) (fun m e => by cases e; exact q) n rfl
      refine ⟨n, rfl, ?_⟩
      by_cases b1 : -9223372036854775808 ≤ (n : Int)
      · rw [if_pos b1] at f ⊢
        exact ⟨n, rfl, f⟩
      · rw [if_neg b1] at f ⊢
        exact f
end
abbrev ssmallsof : Stmt := top 26
def spsmallsof : Sp := fun vs H Q _ => ∃ (a : Addr) (row : List Int), vs = [.ref a] ∧ H a = some (.lst ((row.map sI).map V.str)) ∧ smR row ∧ ∀ H' t, Same H H' → H' t = some (.tup (row.map V.int)) → Q (.ref t) H'
section
variable {P : Program} {w : World} {K : PySem.W.Frag} {mg : Str → Option Value} {base : Heap} {f : Addr} {fd : FuncData}
theorem scsmallsof : FnScope ["words", "numbers"] ["words"] (defScope ssmallsof) := ⟨rfl, rfl, rfl, by decide +kernel, rfl, by decide +kernel, by decide +kernel⟩
theorem oksmallsof (F : Fun K "smalls_of" "smalls_of" ssmallsof f fd) (csmallof : Callee P w K mg base CX0 (3) "small_of" ["word"] spsmallof) (zlen : mg "len" = none) (ztuple : mg "tuple" = none) {tMOST_SIDES_WRITTEN : Tok} (gMOST_SIDES_WRITTEN : mg "MOST_SIDES_WRITTEN" = some (.int 8 tMOST_SIDES_WRITTEN)) : FnOk P w K mg base CX0 (4) f fd ["words"] (spsmallsof) := by
  have sc := scsmallsof
  refine F.ok sc (fun vs H Q E h => ?_) (fun cdv A outer s H vs Q E hr h => ?_)
  · obtain ⟨a, row, rfl, _⟩ := h; rfl
  obtain ⟨a, row, rfl, ha, smr, q⟩ := h
  refine ⟨_, (pss_cons (ps_setC0 (own := ["word"]) sc.nd (i := 1) rfl (by first | exact Or.inl rfl | exact Or.inr rfl) (by first | exact Or.inl rfl | exact Or.inr rfl) rfl (pi_list (pv 0)) (by decide) (by decide) rfl (by decide) (fun _ _ _ _ => (pg_name (i := 0) (show (["word"] : List Str).Nodup by decide +kernel) rfl (Or.inl rfl))) (fun _ _ _ _ => (pe_cal csmallof hr (by rfl) pass0 (pa_cons (pv 0) pa_nil)))) (pss_cons (ps_if (pw_or (pt_cmpR op_gt (pe_callB call_len_seq (by rfl) zlen PySem.boot_len (pa_cons (pv 1) pa_nil)) (pe_glob (v := .int 8) (by rfl) gMOST_SIDES_WRITTEN ⟨_, rfl⟩) (nomark _)) (pw_or1 (pt_cmpR (op_inN (hu1 hr)) pe_non (pv 1) rfl))).pt (pss_one (ps_ret pe_non)) pss_nil) (pss_one (ps_ret (pe_callTy call_tuple_of (by rfl) ztuple boot_tuple (pa_cons (pv 1) pa_nil)))))), ?_⟩
  simp only [L2.start, List.length_cons, List.length_nil, List.replicate, List.cons_append, List.nil_append, Nat.reduceSub, Nat.reduceAdd, List.map_cons, List.map_nil]
  refine seq_with (fun σ H1 => ∃ l, σ = [some (.ref a), some (.ref l)] ∧ Same H H1 ∧ H1 l = some (.lst (row.map V.int))) ?_ (fun R hR => ?_)
  rotate_left
  · wp_walk using tSeq, tyS, inV, eqV
    refine CompL.mk (xs := (row.map sI).map V.str) (.of ha) (fun i ys σ G => Same H G ∧ ys = (row.take i).map V.int ∧ ∃ y, σ = [y]) ⟨Same.refl _, rfl, _, rfl⟩ (fun i ys σ G _ h => .of (h.1 _ _ ha)) (fun i x ys σ G e h => ?_) (fun ys σ G h p hp => ?_)
    · obtain ⟨sG, rfl, y, rfl⟩ := h
      rw [List.getElem?_map, List.getElem?_map] at e
      cases er : row[i]? with
      | none => rw [er] at e; cases e
      | some n =>
        rw [er] at e
        cases (Option.some.inj e)
        have nb := smr.2 n (List.mem_of_getElem? er)
        have l8 := smr.1
        refine ⟨by rw [List.length_map, List.length_take]; exact small1000 (by omega), ?_⟩
        wp_walk using tSeq, tyS, inV, eqV, spsmallof, sml_opt nb.1 nb.2
        exact ⟨sI_low (by omega), fun G2 s2 => ⟨sG.trans s2, by rw [List.take_add_one, er, List.map_append]; rfl, _, rfl⟩⟩
    · obtain ⟨sG, rfl, y, rfl⟩ := h
      rw [List.length_map, List.length_map, List.take_length]
      exact hR _ _ ⟨p, rfl, sG.trans (same_new hp _), upd_same⟩
  rintro σ1 H1 ⟨l, rfl, s1, h1⟩
  wp_walk using tSeq, tyS, inV, eqV
  have l8 := smr.1
  refine ⟨_, .inl (.of h1), ?_⟩
  rw [if_neg (by rw [List.length_map]; omega)]
  refine ⟨_, h1, fun z hz => .inl (by obtain ⟨n, _, rfl⟩ := List.mem_map.mp hz; rfl), ?_⟩
  rw [if_neg (by rw [List.any_map]; simp [eqV])]
  exact ⟨_, .inl ⟨.of h1, fun p hp => q _ _ (s1.trans (same_new hp _)) upd_same⟩⟩
end
abbrev spartof : Stmt := top 27
def sppartof : Sp := fun vs H Q _ => ∃ (kind w : Str) (ka : Addr) (kvs : List (Key × V)) (v : V), vs = [.str kind, .str w, .ref ka] ∧ H ka = some (.dK kvs) ∧ PtOk kvs kind w v ∧ ∀ H', Same H H' → Q v H'
section
variable {P : Program} {w : World} {K : PySem.W.Frag} {mg : Str → Option Value} {base : Heap} {f : Addr} {fd : FuncData}
theorem scpartof : FnScope ["kind", "word", "known"] ["kind", "word", "known"] (defScope spartof) := ⟨rfl, rfl, rfl, by decide +kernel, rfl, by decide +kernel, by decide +kernel⟩
theorem okpartof (F : Fun K "part_of" "part_of" spartof f fd) (cisname : Callee P w K mg base CX0 (3) "is_name" ["word"] spisname) (cnumberof : Callee P w K mg base CX0 (3) "number_of" ["word"] spnumberof) (csmallof : Callee P w K mg base CX0 (3) "small_of" ["word"] spsmallof) : FnOk P w K mg base CX0 (4) f fd ["kind", "word", "known"] (sppartof) := by
  have sc := scpartof
  refine F.ok sc (fun vs H Q E h => ?_) (fun cdv A outer s H vs Q E hr h => ?_)
  · obtain ⟨k, w, ka, kvs, v, rfl, _⟩ := h; rfl
  obtain ⟨kind, w, ka, kvs, v, rfl, hk, hp, q⟩ := h
  refine ⟨_, (pss_cons (ps_if (pt_cmpR op_eq (pv 0) pe_str (nomark _)) (pss_one (ps_ret (pe_dget1 (hu1 hr) (pv 2) (pv 1) ⟨by rfl, by rfl, by rfl, by rfl⟩))) pss_nil) (pss_cons (ps_if (pt_cmpR op_eq (pv 0) pe_str (nomark _)) (pss_one (ps_ret (pe_ifExp (pt_val (pe_cal cisname hr (by rfl) pass0 (pa_cons (pv 1) pa_nil))) (pv 1) pe_non))) pss_nil) (pss_cons (ps_if (pt_cmpR op_eq (pv 0) pe_str (nomark _)) (pss_one (ps_ret (pe_cal cnumberof hr (by rfl) pass0 (pa_cons (pv 1) pa_nil)))) pss_nil) (pss_one (ps_ret (pe_cal csmallof hr (by rfl) pass0 (pa_cons (pv 1) pa_nil))))))), ?_⟩
  wp_walk using tSeq, tyS, inV, eqV, spisname, spnumberof, spsmallof
  rcases hp with ⟨rfl, u, e, rfl⟩ | ⟨rfl, ok, rfl⟩ | ⟨rfl, n, rfl, n0, n1, rfl⟩ | ⟨rfl, n, rfl, n0, n1, rfl⟩
  · rw [if_pos rfl]
    refine ⟨.inl ⟨kvs, .inl hk⟩, _, .inl ⟨kvs, .inr w, .inl hk, rfl, rfl⟩, ?_⟩
    rw [e]
    exact q _ (Same.refl _)
  · rw [if_neg (by decide +kernel), if_pos rfl]
    exact ⟨ok, fun H1 s1 => q _ s1⟩
  · rw [if_neg (by decide +kernel), if_neg (by decide +kernel), if_pos rfl]
    exact ⟨sI_low (by omega), fun H1 s1 => by rw [num_opt n0 n1]; exact q _ s1⟩
  · rw [if_neg (by decide +kernel), if_neg (by decide +kernel), if_neg (by decide +kernel)]
    exact ⟨sI_low (by omega), fun H1 s1 => by rw [sml_opt n0 n1]; exact q _ s1⟩
end
abbrev sstepof : Stmt := top 28
def spstepof : Sp := fun vs H Q _ => ∃ (wa ka ra : Addr) (d : Sd) (nm : List Str) (k : Nat), vs = [.str (kindS d.kd), .ref wa, .ref ka] ∧ H wa = some (.lst ((wordsF d nm).map V.str)) ∧ H ka = some (.dK (knownK nm k)) ∧ nmGood nm ∧ k ≤ nm.length ∧ d.kd < 15 ∧ (d.kd < 3 ∨ (d.u0 < k ∧ d.u1 < k ∧ d.u2 < k)) ∧ H ra = some (.tup ((rowF d.c).map V.int)) ∧ ∀ H' p, Same H H' → SdAt H' d p → Q (.ref p) H'
section
variable {P : Program} {w : World} {K : PySem.W.Frag} {mg : Str → Option Value} {base : Heap} {f : Addr} {fd : FuncData}
theorem scstepof : FnScope ["form", "words", "known", "parts", "step", "left", "kind", "place"] ["form", "words", "known"] (defScope sstepof) := ⟨rfl, rfl, rfl, by decide +kernel, rfl, by decide +kernel, by decide +kernel⟩
theorem okstepof (F : Fun K "step_of" "step_of" sstepof f fd) (cpartsof : Callee P w K mg base CX0 (4) "parts_of" ["form"] (sppartsof K)) (csmallsof : Callee P w K mg base CX0 (4) "smalls_of" ["words"] spsmallsof) (cpartof : Callee P w K mg base CX0 (4) "part_of" ["kind", "word", "known"] sppartof) (zlen : mg "len" = none) (zlist : mg "list" = none) (ztuple : mg "tuple" = none) : FnOk P w K mg base CX0 (5) f fd ["form", "words", "known"] (spstepof) := by
  have sc := scstepof
  refine F.ok sc (fun vs H Q E h => ?_) (fun cdv A outer s H vs Q E hr h => ?_)
  · obtain ⟨wa, ka, ra, d, nm, k, rfl, _⟩ := h; rfl
  obtain ⟨wa, ka, ra, d, nm, k, rfl, hw, hka, g, kn, hd, hu, hra, q⟩ := h
  refine ⟨_, (pss_cons (ps_set (i := 3) sc.nd rfl (by first | exact Or.inl rfl | exact Or.inr rfl) (pe_cal cpartsof hr (by rfl) pass0 (pa_cons (pv 0) pa_nil))) (pss_cons (ps_set (i := 4) sc.nd rfl (by first | exact Or.inl rfl | exact Or.inr rfl) (pe_op op_rep (pe_lst (pa_cons (pv 0) pa_nil)) (pe_op op_add (pe_callB call_len_seq (by rfl) zlen PySem.boot_len (pa_cons (pv 3) pa_nil)) pe_int))) (pss_cons (ps_set (i := 5) sc.nd rfl (by first | exact Or.inl rfl | exact Or.inr rfl) (pe_callTy call_list_of (by rfl) zlist boot_list (pa_cons (pv 1) pa_nil))) (pss_cons (ps_for PassesOwn.never rfl (pi_tup (pv 3)) (pg_tupK (K := K) (n := 2) rfl (pg_tup rfl (pgs_cons (pg_name (i := 6) sc.nd rfl (Or.inl rfl)) (pgs_cons (pg_name (i := 7) sc.nd rfl (Or.inl rfl)) pgs_nil)))) (pss_one (ps_if (pt_cmpR op_eq (pv 6) pe_str (nomark _)) (pss_cons (ps_asg (pe_cal csmallsof hr (by rfl) pass0 (pa_cons (pv 5) pa_nil)) (pg_sub (pv 4) (pv 7) set_list)) (pss_one (ps_set (i := 5) sc.nd rfl (by first | exact Or.inl rfl | exact Or.inr rfl) (pe_lst pa_nil)))) (pss_one (ps_asg (pe_ifExp (pt_cmpR op_gt (pe_callB call_len_seq (by rfl) zlen PySem.boot_len (pa_cons (pv 5) pa_nil)) pe_int (nomark _)) (pe_cal cpartof hr (by rfl) pass0 (pa_cons (pv 6) (pa_cons (pe_bm PySem.F.plainAttrs_list PySem.F.slot_list_pop PySem.F.type_list_pop mr_popAt (pv 5) (pa_cons pe_int pa_nil)) (pa_cons (pv 2) pa_nil)))) pe_non) (pg_sub (pv 4) (pv 7) set_list)))))) (pss_cons (ps_if (pw_or (pt_cmpR op_gt (pe_callB call_len_seq (by rfl) zlen PySem.boot_len (pa_cons (pv 5) pa_nil)) pe_int (nomark _)) (pw_or1 (pt_cmpR (op_inN (hu1 hr)) pe_non (pv 4) rfl))).pt (pss_one (ps_ret pe_non)) pss_nil) (pss_one (ps_ret (pe_callTy call_tuple_of (by rfl) ztuple boot_tuple (pa_cons (pv 4) pa_nil))))))))), ?_⟩
  simp only [L2.start, List.length_cons, List.length_nil, List.replicate, List.cons_append, List.nil_append, Nat.reduceSub, Nat.reduceAdd, List.map_cons, List.map_nil]
  have l5 := forms_l5 d
  refine seq_with (fun σ H1 => H1 = H ∧ ∃ pa xs, σ = [some (.str (kindS d.kd)), some (.ref wa), some (.ref ka), some (.ref pa), none, none, none, none] ∧ KTup K pa xs ∧ ItemsAll K (formsOf d) xs) ?_ (fun R hR => ?_)
  rotate_left
  · wp_walk using tSeq, tyS, inV, eqV, sppartsof
    exact ⟨d.kd, hd, rfl, fun a xs e1 e2 => hR _ _ ⟨rfl, a, xs, rfl, e1, e2⟩⟩
  rintro σ1 H1 ⟨rfl, pa, its, rfl, kt, ia⟩
  obtain ⟨l3, at3⟩ := items_at ia
  refine seq_with (fun σ H2 => ∃ sa, σ = [some (.str (kindS d.kd)), some (.ref wa), some (.ref ka), some (.ref pa), some (.ref sa), none, none, none] ∧ Same H1 H2 ∧ H1 sa = none ∧ H2 sa = some (.lst (List.replicate ((formsOf d).length + 1) (V.str (kindS d.kd))))) ?_ (fun R hR => ?_)
  rotate_left
  · wp_walk using tSeq, tyS, inV, eqV
    refine ⟨small (by decide), fun p hp => ?_⟩
    refine ⟨_, .inr kt.sq, ?_⟩
    refine ⟨by omega, by omega, ?_, fun p1 hp1 => ?_⟩
    · rw [l3]; exact small (by simp; omega)
    · refine hR _ _ ⟨p1, rfl, (same_new hp _).trans (same_new hp1 _), (same_new hp _).free hp1, ?_⟩
      rw [upd_same, rep_one, l3]
      rw [show ((((formsOf d).length : Nat) : Int) + 1).toNat = (formsOf d).length + 1 by omega]
  rintro σ2 H2 ⟨sa, rfl, s2, sa0, h2⟩
  refine seq_with (fun σ H3 => ∃ la, σ = [some (.str (kindS d.kd)), some (.ref wa), some (.ref ka), some (.ref pa), some (.ref sa), some (.ref la), none, none] ∧ Same H2 H3 ∧ H2 la = none ∧ H3 la = some (.lst ((wordsF d nm).map V.str))) ?_ (fun R hR => ?_)
  rotate_left
  · wp_walk using tSeq, tyS, inV, eqV
    exact ⟨_, .inl (.of (s2 _ _ hw)), fun p hp => hR _ _ ⟨p, rfl, same_new hp _, hp, upd_same⟩⟩
  rintro σ3 H3 ⟨la, rfl, s3, la0, h3⟩
  have same : ∀ {G : Hp} {a : Addr}, H1 a = none → Same H1 G → ∀ o, Same H1 (upd G a o) := fun {G a} a0 sg o b u e => by rw [upd_ne (fun z => by rw [z, a0] at e; cases e)]; exact sg _ _ e
  have la1 : H1 la = none := s2.free la0
  have sne : sa ≠ la := fun z => by rw [z, la0] at h2; cases h2
  refine seq_with (fun σ G => ∃ (y6 y7 : Option V) (la ra : Addr) (xs : List V), σ = [some (.str (kindS d.kd)), some (.ref wa), some (.ref ka), some (.ref pa), some (.ref sa), some (.ref la), y6, y7] ∧ Same H1 G ∧ G sa = some (.lst xs) ∧ Filled d ra (formsOf d).length xs ∧ G ra = some (.tup ((rowF d.c).map V.int)) ∧ G la = some (.lst [])) ?_ (fun R hR => ?_)
  rotate_left
  · wp_walk using tSeq, tyS, inV, eqV
    refine LoopT.mk (xs := its) kt.sq (fun j σ G => ∃ (y6 y7 : Option V) (la ra : Addr) (xs : List V), σ = [some (.str (kindS d.kd)), some (.ref wa), some (.ref ka), some (.ref pa), some (.ref sa), some (.ref la), y6, y7] ∧ Same H1 G ∧ H1 la = none ∧ sa ≠ la ∧ G sa = some (.lst xs) ∧ Filled d ra j xs ∧ G ra = some (.tup ((rowF d.c).map V.int)) ∧ G la = some (.lst ((((partsL d nm).drop j).flatten).map V.str))) ?_ (fun i σ G _ h => kt.sq) (fun j x σ G e h => ?_) (fun σ G h => ?_)
    · refine ⟨_, _, la, ra, _, rfl, s2.trans s3, la1, sne, s3 _ _ h2, ⟨by simp, by simp, fun i f hi => absurd hi (Nat.not_lt_zero _)⟩, s3 _ _ (s2 _ _ hra), h3⟩
    · obtain ⟨y6, y7, la, ra, xs, rfl, sG, la1, sne, gsa, fl, gra, gla⟩ := h
      obtain ⟨f, b, ef, rfl, kb⟩ := at3 e
      obtain ⟨x, ws, ex, ew, rd⟩ := read_at (nm := nm) (k := k) ra hd hu j f ef
      have jl := (List.getElem?_eq_some_iff.mp ef).1
      have rng := forms_rng ⟨d.kd, hd⟩ ⟨j, by omega⟩ jl
      have gj := gd_some (a := (("", 0) : Str × Int)) ef
      rw [show ((formsL.getD (⟨d.kd, hd⟩ : Fin 15).val ("", [])).2.getD (⟨j, by omega⟩ : Fin 5).val ("", 0)) = f from gj] at rng
      have rng : 1 ≤ f.2 ∧ f.2 ≤ (formsOf d).length := rng
      have xl := fl.1
      have fI : ((f.2.toNat : Nat) : Int) = f.2 := by omega
      have ixe : ixN xs.length f.2 = some f.2.toNat := by unfold ixN; rw [if_pos (by omega), if_pos (by omega)]
      wp_walk using tSeq, tyS, inV, eqV, spsmallsof, sppartof
      refine ⟨_, kb.sq, rfl, _, _, rfl, _, _, rfl, rfl, rfl, ?_⟩
      wp_walk using tSeq, tyS, inV, eqV
      by_cases cs : f.1 = Str.ofString "sides"
      · rw [if_pos cs]
        have wr : x = .ref ra ∧ ws = (rowF d.c).map sI := by
          rcases rd with ⟨z, _⟩ | ⟨_, z⟩ | ⟨z, _⟩ | ⟨z, _⟩ | ⟨z, _⟩
          · rw [cs] at z; exact absurd z (by decide +kernel)
          · exact z
          · rw [cs] at z; exact absurd z (by decide +kernel)
          · rw [cs] at z; exact absurd z (by decide +kernel)
          · rw [cs] at z; exact absurd z (by decide +kernel)
        have jn := forms_end ⟨d.kd, hd⟩ ⟨j, by omega⟩ (by rw [show ((formsL.getD (⟨d.kd, hd⟩ : Fin 15).val ("", [])).2.getD (⟨j, by omega⟩ : Fin 5).val ("", 0)) = f from gj]; exact cs)
        have dn : (partsL d nm).drop (j + 1) = [] := List.drop_eq_nil_of_le (by rw [parts_n hd]; exact Nat.le_of_eq jn.symm)
        rw [drop_flat ew, dn, List.flatten_nil, List.append_nil, wr.2] at gla
        refine ⟨rowF d.c, gla, row_sm d.c, fun G2 t t2 e2 => ?_⟩
        have gs2 := t2 _ _ gsa
        obtain ⟨x', ws', ex', _, rd'⟩ := read_at (nm := nm) (k := k) t hd hu j f ef
        have wr' : x' = .ref t := by
          rcases rd' with ⟨z, _⟩ | ⟨_, z, _⟩ | ⟨z, _⟩ | ⟨z, _⟩ | ⟨z, _⟩
          · rw [cs] at z; exact absurd z (by decide +kernel)
          · exact z
          · rw [cs] at z; exact absurd z (by decide +kernel)
          · rw [cs] at z; exact absurd z (by decide +kernel)
          · rw [cs] at z; exact absurd z (by decide +kernel)
        rw [wr'] at ex'
        have s12 := same sa0 (sG.trans t2) (HO.lst (xs.set f.2.toNat (.ref t)))
        refine ⟨xs, gs2, _, ixe, Nat.zero_le _, fun p hp => ⟨s12.trans (same_new hp _), s12.free hp, (fun z => by rw [← z, upd_same] at hp; cases hp), t, _, same_new hp _ _ _ upd_same, fl.put hd ef ex' (.inr cs), same_new hp _ _ _ (by rw [upd_ne (fun z => by rw [z, gs2] at e2; cases e2)]; exact e2), by rw [dn]; rfl⟩⟩
      · rw [if_neg cs]
        have wr : ∃ w, ws = [w] ∧ PtOk (knownK nm k) f.1 w x := by
          rcases rd with ⟨z, u, rfl, hu, rfl⟩ | ⟨z, _⟩ | ⟨z, t, rfl, ht, rfl⟩ | ⟨z, n, rfl, n0, n1, rfl⟩ | ⟨z, n, rfl, n0, n1, rfl⟩
          · exact ⟨_, rfl, .inl ⟨z, u, known_at g kn hu, rfl⟩⟩
          · exact absurd z cs
          · exact ⟨_, rfl, .inr (.inl ⟨z, ht, rfl⟩)⟩
          · exact ⟨_, rfl, .inr (.inr (.inl ⟨z, n, rfl, n0, n1, rfl⟩))⟩
          · exact ⟨_, rfl, .inr (.inr (.inr ⟨z, n, rfl, n0, n1, rfl⟩))⟩
        obtain ⟨w, rfl, po⟩ := wr
        rw [drop_flat ew] at gla
        refine ⟨_, .inl (.of gla), ?_⟩
        rw [if_pos (by rw [List.map_append, List.length_append]; simp; omega)]
        refine ⟨.inl ⟨_, .of gla⟩, _, gla, 0, (by rw [StrLaws.seqIndex_nonneg (by decide) (by rw [List.map_append, List.length_append]; simp; omega)]; rfl), _, rfl, ?_⟩
        have er : (List.map V.str ([w] ++ ((partsL d nm).drop (j + 1)).flatten)).eraseIdx 0 = ((partsL d nm).drop (j + 1)).flatten.map V.str := rfl
        rw [er]
        have gka := sG _ _ hka
        have kla : ka ≠ la := fun z => by rw [z, gla] at gka; cases gka
        refine ⟨w, rfl, _, (upd_ne kla).trans gka, x, po, fun G2 t2 => ?_⟩
        have gs2 := t2 _ _ ((upd_ne sne).trans gsa)
        have gr2 := t2 _ _ ((upd_ne (fun z => by rw [z, gla] at gra; cases gra)).trans gra)
        refine ⟨xs, gs2, _, ixe, same sa0 ((same la1 sG _).trans t2) _, la1, sne, ra, fl.put hd ef ex (.inl rfl), ?_, ?_⟩
        · rw [upd_ne (fun z => by rw [z, gs2] at gr2; cases gr2)]; exact gr2
        · rw [upd_ne sne.symm]; exact t2 _ _ upd_same
    · rw [l3] at h
      obtain ⟨y6, y7, la, ra, xs, rfl, sG, la1, sne, gsa, fl, gra, gla⟩ := h
      rw [List.drop_eq_nil_of_le (by rw [parts_n hd]; exact Nat.le_refl _)] at gla
      exact hR _ _ ⟨y6, y7, la, ra, xs, rfl, sG, gsa, fl, gra, gla⟩
  rintro σ4 G ⟨y6, y7, la, ra, xs, rfl, sG, gsa, fl, gra, gla⟩
  cases fl.all hd
  obtain ⟨f1, f2⟩ := st_flat ra hd
  wp_walk using tSeq, tyS, inV
  refine ⟨_, .inl (.of gla), ?_⟩
  rw [if_neg (by simp)]
  refine ⟨_, gsa, fun z hz => (f1 z hz).imp id fun e => ⟨ra, e, _, gra⟩, ?_⟩
  rw [f2, if_neg (by decide)]
  exact ⟨_, .inl ⟨.of gsa, fun p hp => q _ _ (sG.trans (same_new hp _)) ⟨ra, upd_same, same_new hp _ _ _ gra⟩⟩⟩
end
abbrev srowstep : Stmt := top 29
def sprowstep : Sp := fun vs H Q _ => ∃ (wa ka ra : Addr) (d : Sd) (nm : List Str) (k : Nat), vs = [.ref wa, .ref ka] ∧ H wa = some (.lst (([nm.getD k "", "=", kindS d.kd] ++ wordsF d nm).map V.str)) ∧ H ka = some (.dK (knownK nm k)) ∧ nmGood nm ∧ k < nm.length ∧ d.kd < 15 ∧ (d.kd < 3 ∨ (d.u0 < k ∧ d.u1 < k ∧ d.u2 < k)) ∧ H ra = some (.tup ((rowF d.c).map V.int)) ∧ ∀ H' p, Same H H' → SdAt H' d p → Q (.ref p) H'
section
variable {P : Program} {w : World} {K : PySem.W.Frag} {mg : Str → Option Value} {base : Heap} {f : Addr} {fd : FuncData}
theorem scrowstep : FnScope ["words", "known"] ["words", "known"] (defScope srowstep) := ⟨rfl, rfl, rfl, by decide +kernel, rfl, by decide +kernel, by decide +kernel⟩
theorem okrowstep (F : Fun K "row_step" "row_step" srowstep f fd) (cisform : Callee P w K mg base CX0 (5) "is_form" ["word"] spisform) (cisname : Callee P w K mg base CX0 (5) "is_name" ["word"] spisname) (cstepof : Callee P w K mg base CX0 (5) "step_of" ["form", "words", "known"] spstepof) (zlen : mg "len" = none) : FnOk P w K mg base CX0 (6) f fd ["words", "known"] (sprowstep) := by
  have sc := scrowstep
  refine F.ok sc (fun vs H Q E h => ?_) (fun cdv A outer s H vs Q E hr h => ?_)
  · obtain ⟨wa, ka, ra, d, nm, k, rfl, _⟩ := h; rfl
  obtain ⟨wa, ka, ra, d, nm, k, rfl, hw, hka, g, kn, hd, hu, hra, q⟩ := h
  refine ⟨_, (pss_cons (ps_if (pw_or (pt_cmpR op_lt (pe_callB call_len_seq (by rfl) zlen PySem.boot_len (pa_cons (pv 0) pa_nil)) pe_int (nomark _)) (pw_or (pt_cmpR op_ne (pe_ix ix_listH (pv 0) pe_int (fun _ _ => rfl)) pe_str (nomark _)) (pw_or1 (pt_not (pt_val (pe_cal cisform hr (by rfl) pass0 (pa_cons (pe_ix ix_listH (pv 0) pe_int (fun _ _ => rfl)) pa_nil))))))).pt (pss_one (ps_ret pe_non)) pss_nil) (pss_cons (ps_if (pw_or (pt_not (pt_val (pe_cal cisname hr (by rfl) pass0 (pa_cons (pe_ix ix_listH (pv 0) pe_int (fun _ _ => rfl)) pa_nil)))) (pw_or1 (pt_cmp (pc_din (hu1 hr) (pe_ix ix_listH (pv 0) pe_int (fun _ _ => rfl)) (pv 1)) rfl))).pt (pss_one (ps_ret pe_non)) pss_nil) (pss_one (ps_ret (pe_cal cstepof hr (by rfl) pass0 (pa_cons (pe_ix ix_listH (pv 0) pe_int (fun _ _ => rfl)) (pa_cons (pe_slice sl_list (pv 0) (po_some pe_int) po_none) (pa_cons (pv 1) pa_nil)))))))), ?_⟩
  wp_walk using tSeq, tyS, inV, eqV, spisform, spisname, spstepof, rSlL
  have a0 : atI (([nm.getD k "", "=", kindS d.kd] ++ wordsF d nm).map V.str) 0 = some (.str (nm.getD k "")) := atI_nat (j := 0) rfl
  have a1 : atI (([nm.getD k "", "=", kindS d.kd] ++ wordsF d nm).map V.str) 1 = some (.str "=") := atI_nat (j := 1) rfl
  have a2 : atI (([nm.getD k "", "=", kindS d.kd] ++ wordsF d nm).map V.str) 2 = some (.str (kindS d.kd)) := atI_nat (j := 2) rfl
  refine ⟨_, .inl (.of hw), ?_⟩
  rw [if_neg (by rw [List.length_map, List.length_append]; simp; omega)]
  refine ⟨_, hw, _, a1, rfl, ?_⟩
  rw [if_neg (by simp)]
  refine ⟨_, hw, _, a2, d.kd, hd, rfl, _, hw, _, a0, _, rfl, getD_ok g kn, fun H1 s1 => ?_⟩
  refine ⟨_, s1 _ _ hw, _, a0, _, .inl ⟨_, .inr (nm.getD k ""), .inl (s1 _ _ hka), rfl, rfl⟩, ?_⟩
  rw [known_no g kn (Nat.le_refl _), if_neg (by decide)]
  refine ⟨_, s1 _ _ hw, _, a2, _, .of (s1 _ _ hw), fun p hp => ?_⟩
  rw [show cutV (([nm.getD k "", "=", kindS d.kd] ++ wordsF d nm).map V.str) (some 3) none = (wordsF d nm).map V.str from cut_3 _ _ _ _]
  exact ⟨p, ka, ra, d, rfl, rfl, rfl, nm, upd_same, k, same_new hp _ _ _ (s1 _ _ hka), g, by omega, hd, hu, same_new hp _ _ _ (s1 _ _ hra), fun H2 p2 s2 e2 => q _ _ (s1.trans ((same_new hp _).trans s2)) e2⟩
end
abbrev srowouts : Stmt := top 30
def sprowouts : Sp := fun vs H Q _ => ∃ (wa ka : Addr) (os : List Nat) (nm : List Str), vs = [.ref wa, .ref ka] ∧ H wa = some (.lst ((outW os nm).map V.str)) ∧ H ka = some (.dK (knownK nm nm.length)) ∧ nmGood nm ∧ 1 ≤ os.length ∧ os.length ≤ 8 ∧ (∀ o ∈ os, o < nm.length) ∧ ∀ H' p, Same H H' → H' p = some (.tup (os.map fun (o : Nat) => V.int (o : Int))) → Q (.ref p) H'
section
variable {P : Program} {w : World} {K : PySem.W.Frag} {mg : Str → Option Value} {base : Heap} {f : Addr} {fd : FuncData}
theorem scrowouts : FnScope ["words", "known", "outs"] ["words", "known"] (defScope srowouts) := ⟨rfl, rfl, rfl, by decide +kernel, rfl, by decide +kernel, by decide +kernel⟩
theorem okrowouts (F : Fun K "row_outs" "row_outs" srowouts f fd) (zlen : mg "len" = none) (ztuple : mg "tuple" = none) {tMOST_OUTS : Tok} (gMOST_OUTS : mg "MOST_OUTS" = some (.int 8 tMOST_OUTS)) : FnOk P w K mg base CX0 (1) f fd ["words", "known"] (sprowouts) := by
  have sc := scrowouts
  refine F.ok sc (fun vs H Q E h => ?_) (fun cdv A outer s H vs Q E hr h => ?_)
  · obtain ⟨wa, ka, os, nm, rfl, _⟩ := h; rfl
  obtain ⟨wa, ka, os, nm, rfl, hw, hka, g, o1, o8, ob, q⟩ := h
  refine ⟨_, (pss_cons (ps_setC (own := ["word"]) (fv := ["known"]) (js := [1]) sc.nd (i := 2) rfl (by first | exact Or.inl rfl | exact Or.inr rfl) (by first | exact Or.inl rfl | exact Or.inr rfl) rfl (pi_list (pe_slice sl_list (pv 0) (po_some pe_int) po_none)) rfl (by decide) rfl (by decide) (by first | exact fun _ _ h => h | exact cl_sub1 rfl | exact cl_sub2 rfl rfl | exact cl_sub3 rfl rfl rfl) (has_of (by rfl)) rfl (cap1 (by first | exact ⟨rfl, .inl rfl, .inl rfl⟩ | exact ⟨rfl, .inl rfl, .inr rfl⟩)) (fun _ _ _ _ => (pg_name (i := 0) (show (["word", "known"] : List Str).Nodup by decide +kernel) rfl (Or.inl rfl))) (fun _ _ _ _ => (pe_dget1 (hu1 hr) (pv 1) (pv 0) ⟨by rfl, by rfl, by rfl, by rfl⟩))) (pss_cons (ps_if (pw_or (pt_cmpR op_ne (pe_ix ix_listH (pv 0) pe_int (fun _ _ => rfl)) pe_str (nomark _)) (pw_or (pt_cmpR (op_inN (hu1 hr)) pe_non (pv 2) rfl) (pw_or1 (pt_not (pt_chain op_le op_le pe_int (pe_callB call_len_seq (by rfl) zlen PySem.boot_len (pa_cons (pv 2) pa_nil)) (pe_glob (v := .int 8) (by rfl) gMOST_OUTS ⟨_, rfl⟩)))))).pt (pss_one (ps_ret pe_non)) pss_nil) (pss_one (ps_ret (pe_callTy call_tuple_of (by rfl) ztuple boot_tuple (pa_cons (pv 2) pa_nil)))))), ?_⟩
  simp only [L2.start, List.length_cons, List.length_nil, List.replicate, List.cons_append, List.nil_append, Nat.reduceSub, Nat.reduceAdd, List.map_cons, List.map_nil]
  refine seq_with (fun σ H1 => ∃ l, σ = [some (.ref wa), some (.ref ka), some (.ref l)] ∧ Same H H1 ∧ H1 l = some (.lst (os.map fun (o : Nat) => V.int (o : Int)))) ?_ (fun R hR => ?_)
  rotate_left
  · wp_walk using tSeq, tyS, inV, eqV, rSlL
    refine ⟨_, .of hw, fun p hp => ?_⟩
    rw [show cutV ((outW os nm).map V.str) (some 1) none = (outsF os nm).map V.str from cut_1 _ _]
    refine CompL.mk (xs := (outsF os nm).map V.str) (.of upd_same) (fun i ys σ G => G = upd H p (HO.lst ((outsF os nm).map V.str)) ∧ ys = (os.take i).map (fun (o : Nat) => V.int (o : Int)) ∧ ∃ y, σ = [y, some (.ref ka)]) ⟨rfl, rfl, _, rfl⟩ (fun i ys σ G _ h => by rw [h.1]; exact .of upd_same) (fun i x ys σ G e h => ?_) (fun ys σ G h p2 hp2 => ?_)
    · obtain ⟨rfl, rfl, y, rfl⟩ := h
      unfold outsF at e
      rw [List.getElem?_map, List.getElem?_map] at e
      cases eo : os[i]? with
      | none => rw [eo] at e; cases e
      | some o =>
        rw [eo] at e
        cases (Option.some.inj e)
        have oo := ob o (List.mem_of_getElem? eo)
        have il := (List.getElem?_eq_some_iff.mp eo).1
        refine ⟨by rw [List.length_map, List.length_take]; exact small1000 (by omega), ?_⟩
        wp_walk using tSeq, tyS, inV, eqV
        refine ⟨.inl ⟨_, .inl (same_new hp _ _ _ hka)⟩, _, .inl ⟨_, .inr (nm.getD o ""), .inl (same_new hp _ _ _ hka), rfl, rfl⟩, ?_⟩
        rw [known_at g (Nat.le_refl _) oo]
        exact ⟨by rw [List.take_add_one, eo, List.map_append]; rfl, _, rfl⟩
    · obtain ⟨rfl, rfl, y, rfl⟩ := h
      rw [show ((outsF os nm).map V.str).length = os.length by simp [outsF], List.take_length]
      exact hR _ _ ⟨p2, rfl, (same_new hp _).trans (same_new hp2 _), upd_same⟩
  rintro σ1 H1 ⟨l, rfl, s1, h1⟩
  wp_walk using tSeq, tyS, inV, eqV
  refine ⟨_, s1 _ _ hw, _, atI_nat (j := 0) rfl, rfl, ?_⟩
  rw [if_neg (by simp)]
  refine ⟨_, h1, fun z hz => .inl (by obtain ⟨n, _, rfl⟩ := List.mem_map.mp hz; rfl), ?_⟩
  rw [if_neg (by rw [List.any_map]; simp [eqV])]
  refine ⟨_, .inl (.of h1), ?_⟩
  rw [if_pos (by rw [List.length_map]; omega), if_neg (by rw [List.length_map]; omega)]
  exact ⟨_, .inl ⟨.of h1, fun p hp => q _ _ (s1.trans (same_new hp _)) upd_same⟩⟩
end
abbrev sread : Stmt := top 31
def spread : Sp := fun vs H Q _ => ∃ (ds : List Sd) (os : List Nat) (nm : List Str), vs = [.str (Builtin.Str.glued "\n" (textL ds os nm))] ∧ nmGood nm ∧ nm.length = ds.length ∧ OrdOk ds ∧ (∃ p, ProgAt H p ds os) ∧ ∀ H' p q na, Same H H' → H' p = some (.tup [.ref q, .ref na]) → ProgAt H' q ds os → H' na = some (.tup (nm.map V.str)) → Q (.ref p) H'
section
variable {P : Program} {w : World} {K : PySem.W.Frag} {mg : Str → Option Value} {base : Heap} {f : Addr} {fd : FuncData}
theorem scread : FnScope ["text", "rows", "known", "steps", "k", "words", "step", "outs"] ["text"] (defScope sread) := ⟨rfl, rfl, rfl, by decide +kernel, rfl, by decide +kernel, by decide +kernel⟩
theorem okread (F : Fun K "read" "read" sread f fd) (crowstep : Callee P w K mg base CX0 (6) "row_step" ["words", "known"] sprowstep) (crowouts : Callee P w K mg base CX0 (6) "row_outs" ["words", "known"] sprowouts) (zenumerate : mg "enumerate" = none) (zlen : mg "len" = none) (ztuple : mg "tuple" = none) {tMOST_STEPS : Tok} (gMOST_STEPS : mg "MOST_STEPS" = some (.int 40 tMOST_STEPS)) : FnOk P w K mg base CX0 (7) f fd ["text"] (spread) := by
  have sc := scread
  refine F.ok sc (fun vs H Q E h => ?_) (fun cdv A outer s H vs Q E hr h => ?_)
  · obtain ⟨ds, os, nm, rfl, _⟩ := h; rfl
  obtain ⟨ds, os, nm, rfl, g, nl, od, ⟨pp, pr⟩, q⟩ := h
  refine ⟨_, (pss_cons (ps_setC0 (own := ["row"]) sc.nd (i := 1) rfl (by first | exact Or.inl rfl | exact Or.inr rfl) (by first | exact Or.inl rfl | exact Or.inr rfl) rfl (pi_list (pe_bm PySem.F.plainAttrs_str PySem.F.slot_str_split PySem.F.type_str_split mt_split (pv 0) (pa_cons pe_str pa_nil))) (by decide) (by decide) rfl (by decide) (fun _ _ _ _ => (pg_name (i := 0) (show (["row"] : List Str).Nodup by decide +kernel) rfl (Or.inl rfl))) (fun _ _ _ _ => (pe_bmK (K := K) rfl PySem.F.plainAttrs_str PySem.F.slot_str_split PySem.F.type_str_split mt_split (pv 0) (pa_cons pe_str pa_nil)))) (pss_cons (ps_set (i := 2) sc.nd rfl (by first | exact Or.inl rfl | exact Or.inr rfl) pe_dnewK) (pss_cons (ps_set (i := 3) sc.nd rfl (by first | exact Or.inl rfl | exact Or.inr rfl) (pe_lst pa_nil)) (pss_cons (ps_for PassesOwn.never rfl (pi_enumL (by rfl) zenumerate (pe_slice sl_list (pv 1) po_none (po_some (pe_un un_neg pe_int)))) (pg_tupH (n := 2) (pg_tup rfl (pgs_cons (pg_name (i := 4) sc.nd rfl (Or.inl rfl)) (pgs_cons (pg_name (i := 5) sc.nd rfl (Or.inl rfl)) pgs_nil)))) (pss_cons (ps_set (i := 6) sc.nd rfl (by first | exact Or.inl rfl | exact Or.inr rfl) (pe_ifExp (pt_cmpR op_lt (pv 4) (pe_glob (v := .int 40) (by rfl) gMOST_STEPS ⟨_, rfl⟩) (nomark _)) (pe_cal crowstep hr (by rfl) pass0 (pa_cons (pv 5) (pa_cons (pv 2) pa_nil))) pe_non)) (pss_cons (ps_if (pt_cmpR op_isN (pv 6) pe_non (nomark _)) (pss_one ps_never) pss_nil) (pss_cons (ps_dput (hu1 hr) (pv 2) (pe_ix ix_listH (pv 5) pe_int (fun _ _ => rfl)) (pv 4) rfl) (pss_one (ps_expr (pe_app (pv 3) (pv 6)))))))) (pss_cons (ps_set (i := 7) sc.nd rfl (by first | exact Or.inl rfl | exact Or.inr rfl) (pe_cal crowouts hr (by rfl) pass0 (pa_cons (pe_ix ix_listH (pv 1) (pe_un un_neg pe_int) (fun _ _ => rfl)) (pa_cons (pv 2) pa_nil)))) (pss_cons (ps_if (pt_cmpR op_isN (pv 7) pe_non (nomark _)) (pss_one ps_never) pss_nil) (pss_one (ps_ret (pe_tup (pa_cons (pe_tup (pa_cons (pe_callTy call_tuple_of (by rfl) ztuple boot_tuple (pa_cons (pv 3) pa_nil)) (pa_cons (pv 7) pa_nil))) (pa_cons (pe_callTy (call_tupleD rfl) (by rfl) ztuple boot_tuple (pa_cons (pv 2) pa_nil)) pa_nil))))))))))), ?_⟩
  simp only [L2.start, List.length_cons, List.length_nil, List.replicate, List.cons_append, List.nil_append, Nat.reduceSub, Nat.reduceAdd, List.map_cons, List.map_nil]
  obtain ⟨st0, ou0, as0, hpp, hst0, sd0, hou0, d1, d40, dk, o1, o8, ob⟩ := id pr
  have no : nmOk nm := nameOk.nm g (by omega)
  have ac := all_clean g nl dk od ob
  have sh := text_short sd0 dk nl no o8 ob
  have tl : (Builtin.Str.glued "\n" (textL ds os nm)).length ≤ 1000000 := Nat.le_trans (glued_len _ _) (text_tot sd0 d40 dk nl no o8 ob)
  have tn : (textL ds os nm).length = ds.length + 1 := by rw [text_all, List.length_map, all_len]
  have ts := text_split ac
  generalize ht : Builtin.Str.glued "\n" (textL ds os nm) = T at *
  refine seq_with (fun σ H1 => ∃ ro ps, σ = [some (.str T), some (.ref ro), none, none, none, none, none, none] ∧ Same H H1 ∧ H1 ro = some (.lst (ps.map V.ref)) ∧ RowsAt H1 (allW ds os nm) ps) ?_ (fun R hR => ?_)
  rotate_left
  · wp_walk using tSeq, tyS, inV, eqV
    refine ⟨10, nl_is, by decide, tl, fun l hl => ?_⟩
    rw [ts]
    refine CompL.mk (xs := (textL ds os nm).map V.str) (.of upd_same) (fun i ys σ G => Same (upd H l (HO.lst ((textL ds os nm).map V.str))) G ∧ i ≤ ds.length + 1 ∧ (∃ ps, ys = ps.map V.ref ∧ RowsAt G ((allW ds os nm).take i) ps) ∧ ∃ y, σ = [y]) ⟨Same.refl _, Nat.zero_le _, ⟨[], rfl, rfl, fun i ws e => by simp at e⟩, _, rfl⟩ (fun i ys σ G _ h => .of (h.1 _ _ upd_same)) (fun i x ys σ G e h => ?_) (fun ys σ G h p hp => ?_)
    · obtain ⟨sG, il, ⟨ps, rfl, ra⟩, y, rfl⟩ := h
      rw [List.getElem?_map] at e
      cases et : (textL ds os nm)[i]? with
      | none => rw [et] at e; cases e
      | some t =>
        rw [et] at e
        cases (Option.some.inj e)
        have t5 := sh t (List.mem_of_getElem? et)
        have hi : i < ds.length + 1 := by rw [← tn]; exact (List.getElem?_eq_some_iff.mp et).1
        rw [text_all, List.getElem?_map] at et
        cases ew : (allW ds os nm)[i]? with
        | none => rw [ew] at et; cases et
        | some ws =>
          rw [ew] at et
          cases (Option.some.inj et)
          have rs := row_split (ac ws (List.mem_of_getElem? ew))
          refine ⟨by rw [List.length_map, ra.1, List.length_take, all_len]; exact small1000 (by omega), ?_⟩
          wp_walk using tSeq, tyS, inV, eqV
          refine ⟨32, sp_is, by decide, by omega, fun l2 hl2 => ?_⟩
          rw [rs]
          refine ⟨sG.trans (same_new hl2 _), by omega, ⟨ps ++ [l2], by rw [List.map_append]; rfl, ?_⟩, _, rfl⟩
          rw [List.take_add_one, ew]
          exact (ra.same (same_new hl2 _)).snoc upd_same
    · obtain ⟨sG, il, ⟨ps, rfl, ra⟩, y, rfl⟩ := h
      rw [List.length_map, tn, List.take_of_length_le (by rw [all_len]; exact Nat.le_refl _)] at ra
      exact hR _ _ ⟨p, ps, rfl, (same_new hl _).trans (sG.trans (same_new hp _)), upd_same, ra.same (same_new hp _)⟩
  clear ts sh
  rintro σ1 H1 ⟨ro, ps, rfl, s1, hro, rws⟩
  refine seq_with (fun σ H2 => ∃ ka, σ = [some (.str T), some (.ref ro), some (.ref ka), none, none, none, none, none] ∧ Same H1 H2 ∧ H1 ka = none ∧ H2 ka = some (.dK [])) ?_ (fun R hR => ?_)
  rotate_left
  · wp_walk using tSeq, tyS, inV, eqV
    exact fun p hp => hR _ _ ⟨p, rfl, same_new hp _, hp, upd_same⟩
  rintro σ2 H2 ⟨ka, rfl, s2, ka0, h2⟩
  refine seq_with (fun σ H3 => ∃ sa, σ = [some (.str T), some (.ref ro), some (.ref ka), some (.ref sa), none, none, none, none] ∧ Same H2 H3 ∧ H2 sa = none ∧ H3 sa = some (.lst [])) ?_ (fun R hR => ?_)
  rotate_left
  · wp_walk using tSeq, tyS, inV, eqV
    exact ⟨small (by decide), fun p hp => hR _ _ ⟨p, rfl, same_new hp _, hp, upd_same⟩⟩
  rintro σ3 H3 ⟨sa, rfl, s3, sa0, h3⟩
  have sa1 : H1 sa = none := s2.free sa0
  have ksa : ka ≠ sa := fun z => by rw [z, sa0] at h2; cases h2
  have same : ∀ {G : Hp} {a : Addr}, H1 a = none → Same H1 G → ∀ o, Same H1 (upd G a o) := fun {G a} a0 sg o b u e => by rw [upd_ne (fun z => by rw [z, a0] at e; cases e)]; exact sg _ _ e
  have pl : ps.length = ds.length + 1 := by rw [rws.1, all_len]
  refine seq_with (fun σ G => ∃ (y4 y5 y6 : Option V) (as : List Addr), σ = [some (.str T), some (.ref ro), some (.ref ka), some (.ref sa), y4, y5, y6, none] ∧ Same H1 G ∧ G ka = some (.dK (knownK nm ds.length)) ∧ G sa = some (.lst (as.map V.ref)) ∧ SdsAt G ds as) ?_ (fun R hR => ?_)
  rotate_left
  · wp_walk using tSeq, tyS, inV, eqV, rSlL
    refine ⟨_, .of ((s2.trans s3) _ _ hro), fun e he => ?_⟩
    rw [cut_m1, List.length_map, pl, Nat.add_sub_cancel, ← List.map_take]
    have tkl : (ps.take ds.length).length = ds.length := by rw [List.length_take]; omega
    have e1 : H1 e = none := (s2.trans s3).free he
    have eka : e ≠ ka := fun z => by rw [z, s3 _ _ h2] at he; cases he
    have esa : e ≠ sa := fun z => by rw [z, h3] at he; cases he
    refine LoopEL.mk (xs := (ps.take ds.length).map V.ref) (.of upd_same) (fun i σ G => ∃ (y4 y5 y6 : Option V) (as : List Addr), σ = [some (.str T), some (.ref ro), some (.ref ka), some (.ref sa), y4, y5, y6, none] ∧ Same H1 G ∧ G e = some (.lst ((ps.take ds.length).map V.ref)) ∧ G ka = some (.dK (knownK nm i)) ∧ G sa = some (.lst (as.map V.ref)) ∧ SdsAt G (ds.take i) as) ?_ (fun i σ G _ h => by obtain ⟨y4, y5, y6, as, _, _, ge, _⟩ := h; exact .of ge) (fun i x σ G T0 ex h hT => ?_) (fun σ G h => ?_)
    · exact ⟨_, _, _, [], rfl, (s2.trans s3).trans (same_new he _), upd_same, by rw [upd_ne eka.symm]; exact s3 _ _ h2, by rw [upd_ne esa.symm]; exact h3, ⟨rfl, fun i d e => by simp at e⟩⟩
    · obtain ⟨y4, y5, y6, as, rfl, sG, ge, gk, gs, sd⟩ := h
      have hi : i < ds.length := by have := (List.getElem?_eq_some_iff.mp ex).1; rw [List.length_map] at this; omega
      have gi : ds[i]? = some (ds.getD i ⟨0, 0, 0, 0, 0⟩) := by rw [List.getD_eq_getElem?_getD, List.getElem?_eq_getElem hi]; rfl
      obtain ⟨wa, ew, hwa⟩ := rws.2 i _ (all_row hi)
      rw [List.getElem?_map, List.getElem?_take_of_lt hi, ew] at ex
      cases (Option.some.inj ex)
      have dko := dk _ (List.mem_of_getElem? gi)
      have odo := od i _ gi
      obtain ⟨a0, _, ra0, _, hra0⟩ := sd0.2 i _ gi
      have hra1 := s1 _ _ hra0
      have til : (ds.take i).length = i := by rw [List.length_take]; omega
      have tT := same_new hT (HO.tup [V.int (i : Int), V.ref wa])
      wp_walk using tyS, inV, eqV
      refine seq_with (fun σ G3 => ∃ pn, σ = [some (.str T), some (.ref ro), some (.ref ka), some (.ref sa), some (.int (i : Int)), some (.ref wa), some (.ref pn), none] ∧ Same G G3 ∧ SdAt G3 (ds.getD i ⟨0, 0, 0, 0, 0⟩) pn) ?_ (fun R hR => ?_)
      rotate_left
      · wp_walk using tSeq, tyS, inV, eqV, sprowstep
        rw [if_pos (by omega)]
        exact ⟨ra0, ds.getD i ⟨0, 0, 0, 0, 0⟩, nm, i, tT _ _ (sG _ _ hwa), tT _ _ gk, g, by omega, dko.1, odo, tT _ _ (sG _ _ hra1), fun G3 pn t3 e3 => hR _ _ ⟨pn, rfl, tT.trans t3, e3⟩⟩
      rintro σa G3 ⟨pn, rfl, t3, sdp⟩
      wp_walk using tSeq, tyS, inV, eqV
      rw [if_neg (by intro z; cases z)]
      have gk3 := t3 _ _ gk
      have gs3 := t3 _ _ gs
      refine ⟨_, t3 _ _ (sG _ _ hwa), _, atI_nat (j := 0) rfl, _, .inl ⟨_, .inr (nm.getD i ""), gk3, rfl, by rw [known_len]; exact small1000 (by omega), rfl⟩, ?_⟩
      rw [known_put g (by omega)]
      have hs4 : upd G3 ka (HO.dK (knownK nm (i + 1))) sa = some (HO.lst (as.map V.ref)) := by rw [upd_ne ksa.symm]; exact gs3
      refine ⟨⟨_, hs4⟩, _, hs4, by rw [List.length_map, sd.1, til]; exact small1000 (by omega), same sa1 (same ka0 (sG.trans t3) _) _, by rw [upd_ne esa, upd_ne eka]; exact t3 _ _ ge, by rw [upd_ne ksa]; exact upd_same, as ++ [pn], by rw [List.map_append]; rfl, ?_⟩
      rw [take_snoc hi]
      exact (((sd.same t3).snoc sdp).upd (fun xs z => by rw [gk3] at z; cases z)).upd (fun xs z => by rw [hs4] at z; cases z)
    · obtain ⟨y4, y5, y6, as, rfl, sG, ge, gk, gs, sd⟩ := h
      rw [List.length_map, tkl] at gk sd
      rw [List.take_length] at sd
      exact hR _ _ ⟨y4, y5, y6, as, rfl, sG, gk, gs, sd⟩
  rintro σ4 G ⟨y4, y5, y6, as, rfl, sG, gk, gs, sd⟩
  refine seq_with (fun σ G2 => ∃ oa, σ = [some (.str T), some (.ref ro), some (.ref ka), some (.ref sa), y4, y5, y6, some (.ref oa)] ∧ Same G G2 ∧ G2 oa = some (.tup (os.map fun (o : Nat) => V.int (o : Int)))) ?_ (fun R hR => ?_)
  rotate_left
  · wp_walk using tSeq, tyS, inV, eqV, sprowouts
    obtain ⟨wl, el, hwl⟩ := rws.2 ds.length _ (all_last ds os nm)
    refine ⟨_, sG _ _ hro, _, at_m1 (by rw [List.length_map, pl]) (by rw [List.getElem?_map, el]; rfl), ?_⟩
    exact ⟨wl, rfl, os, nm, sG _ _ hwl, by rw [nl]; exact gk, g, o1, o8, (fun o ho => by rw [nl]; exact ob o ho), fun G2 p s2 e2 => hR _ _ ⟨p, rfl, s2, e2⟩⟩
  rintro σ5 G2 ⟨oa, rfl, s5, h5⟩
  wp_walk using tSeq, tyS, inV, eqV
  rw [if_neg (by intro z; cases z)]
  refine ⟨_, .inl ⟨.of (s5 _ _ gs), fun l hl => ⟨small (by decide), fun p1 hp1 => ⟨_, same_new hp1 _ _ _ (same_new hl _ _ _ (s5 _ _ gk)), fun l1 hl1 => ⟨small (by decide), fun p2 hp2 => ?_⟩⟩⟩⟩⟩
  have kk : ((knownK nm ds.length).map fun kv => kV kv.1) = nm.map V.str := by rw [← nl]; exact known_keys nm
  rw [kk] at hp2 ⊢
  have s6 := ((same_new hl (HO.tup (as.map V.ref))).trans (same_new hp1 (HO.tup [V.ref l, V.ref oa]))).trans ((same_new hl1 (HO.tup (nm.map V.str))).trans (same_new hp2 (HO.tup [V.ref p1, V.ref l1])))
  have s7 := (same_new hp1 (HO.tup [V.ref l, V.ref oa])).trans ((same_new hl1 (HO.tup (nm.map V.str))).trans (same_new hp2 (HO.tup [V.ref p1, V.ref l1])))
  have s8 := (same_new hl1 (HO.tup (nm.map V.str))).trans (same_new hp2 (HO.tup [V.ref p1, V.ref l1]))
  exact q _ p2 p1 l1 (s1.trans (sG.trans (s5.trans s6))) upd_same ⟨l, oa, as, s8 _ _ upd_same, s7 _ _ upd_same, sd.same (s5.trans s6), s6 _ _ h5, d1, d40, dk, o1, o8, ob⟩ (same_new hp2 _ _ _ upd_same)
end
abbrev slawdraw : Stmt := top 33
def splawdraw : Sp := fun vs H Q _ => ∃ (c k m : Int), vs = [.int c, .int k, .int m] ∧ 0 ≤ k ∧ k < 100000 ∧ 0 < m ∧ Q (.int (drawF c k m)) H
section
variable {P : Program} {w : World} {K : PySem.W.Frag} {mg : Str → Option Value} {base : Heap} {f : Addr} {fd : FuncData}
theorem sclawdraw : FnScope ["cell", "k", "many", "m"] ["cell", "k", "many"] (defScope slawdraw) := ⟨rfl, rfl, rfl, by decide +kernel, rfl, by decide +kernel, by decide +kernel⟩
theorem oklawdraw (F : Fun K "_law_draw" "_law_draw" slawdraw f fd) : FnOk P w K mg base CX0 (1) f fd ["cell", "k", "many"] (splawdraw) := by
  have sc := sclawdraw
  refine F.ok sc (fun vs H Q E h => ?_) (fun cdv A outer s H vs Q E hr h => ?_)
  · obtain ⟨c, k, m, rfl, _⟩ := h; rfl
  obtain ⟨c, k, m, rfl, k0, k1, m0, q⟩ := h
  refine ⟨_, (pss_cons (ps_set (i := 3) sc.nd rfl (by first | exact Or.inl rfl | exact Or.inr rfl) (pe_op op_mod (pe_op op_add (pe_op op_mul (pv 0) pe_int) (pe_op op_mul (pe_op op_mul (pe_op op_add (pv 1) pe_int) (pe_op op_add (pv 1) pe_int)) pe_int)) pe_int)) (pss_one (ps_ret (pe_op op_mod (pe_op op_mod (pe_op op_mul (pv 3) (pv 3)) pe_int) (pv 2))))), ?_⟩
  wp_walk using tSeq, tyS, inV, eqV
  have b0 := Int.emod_nonneg (c * 48271 + (k + 1) * (k + 1) * 69621) (show (2147483647 : Int) ≠ 0 by decide)
  have b1 := Int.emod_lt_of_pos (c * 48271 + (k + 1) * (k + 1) * 69621) (show (0 : Int) < 2147483647 by decide)
  exact ⟨.inl ⟨by omega, by omega⟩, .inl ⟨by omega, by omega⟩, m0, q⟩
end
abbrev slawsmalls : Stmt := top 34
def splawsmalls : Sp := fun vs H Q _ => ∃ (c k n : Int), vs = [.int c, .int k, .int n] ∧ 0 ≤ k ∧ k < 1000 ∧ 0 ≤ n ∧ n < 100 ∧ ∀ H' p, Same H H' → H' p = some (.tup ((smallsF c k n.toNat).map V.int)) → Q (.ref p) H'
section
variable {P : Program} {w : World} {K : PySem.W.Frag} {mg : Str → Option Value} {base : Heap} {f : Addr} {fd : FuncData}
theorem sclawsmalls : FnScope ["cell", "at", "many", "top"] ["cell", "at", "many"] (defScope slawsmalls) := ⟨rfl, rfl, rfl, by decide +kernel, rfl, by decide +kernel, by decide +kernel⟩
theorem oklawsmalls (F : Fun K "_law_smalls" "_law_smalls" slawsmalls f fd) (clawdraw : Callee P w K mg base CX0 (1) "_law_draw" ["cell", "k", "many"] splawdraw) (ztuple : mg "tuple" = none) (zrange : mg "range" = none) : FnOk P w K mg base CX0 (2) f fd ["cell", "at", "many"] (splawsmalls) := by
  have sc := sclawsmalls
  refine F.ok sc (fun vs H Q E h => ?_) (fun cdv A outer s H vs Q E hr h => ?_)
  · obtain ⟨c, k, n, rfl, _⟩ := h; rfl
  obtain ⟨c, k, n, rfl, k0, k1, n0, n1, q⟩ := h
  refine ⟨_, (pss_cons (ps_set (i := 3) sc.nd rfl (by first | exact Or.inl rfl | exact Or.inr rfl) (pe_ix ix_list (pe_lst (pa_cons pe_int (pa_cons pe_int pa_nil))) (pe_cal clawdraw hr (by rfl) pass0 (pa_cons (pv 0) (pa_cons (pv 1) (pa_cons pe_int pa_nil)))) (fun _ _ => rfl))) (pss_one (ps_ret (pe_callTy call_tuple_of (by rfl) ztuple boot_tuple (pa_cons (pe_comp (own := ["k"]) (fv := ["cell", "top", "at"]) (js := [0, 3, 1]) rfl (pi_range1 (by rfl) zrange (pa_cons (pv 2) pa_nil)) rfl (by decide) rfl (by decide) (by first | exact fun _ _ h => h | exact cl_sub1 rfl | exact cl_sub2 rfl rfl | exact cl_sub3 rfl rfl rfl) (has_of (by rfl)) rfl (cap3 (by first | exact ⟨rfl, .inl rfl, .inl rfl⟩ | exact ⟨rfl, .inl rfl, .inr rfl⟩) (by first | exact ⟨rfl, .inl rfl, .inl rfl⟩ | exact ⟨rfl, .inl rfl, .inr rfl⟩) (by first | exact ⟨rfl, .inl rfl, .inl rfl⟩ | exact ⟨rfl, .inl rfl, .inr rfl⟩)) (fun _ _ _ _ => (pg_name (i := 0) (show (["k", "cell", "top", "at"] : List Str).Nodup by decide +kernel) rfl (Or.inl rfl))) (fun _ _ _ _ => (pe_cal clawdraw hr (by rfl) pass0 (pa_cons (pv 1) (pa_cons (pe_op op_add (pe_op op_add (pv 3) pe_int) (pv 0)) (pa_cons (pv 2) pa_nil)))))) pa_nil))))), ?_⟩
  wp_walk using tSeq, tyS, inV, eqV, splawdraw
  refine ⟨small (by decide), fun p hp => ⟨k0, by omega, _, .of upd_same, _, top_at c k, by omega, by omega, ?_⟩⟩
  have s1 := same_new hp (.lst [V.int 5, V.int 1000])
  generalize upd H p (.lst [V.int 5, V.int 1000]) = H1 at *
  refine CompR.mk (fun i ys σ H2 => H2 = H1 ∧ ys = (smallsF c k i).map V.int ∧ ∃ y, σ = [y, some (.int c), some (.int (topF c k)), some (.int k)]) ⟨rfl, rfl, _, rfl⟩ (fun i ys σ H2 hi h => ?_) (fun ys σ H2 h p2 hp2 => ?_)
  · obtain ⟨rfl, rfl, y, rfl⟩ := h
    refine ⟨by rw [List.length_map, smalls_len]; exact small1000 (by omega), ?_⟩
    wp_walk using tSeq, tyS, inV, eqV, splawdraw
    exact ⟨by omega, by omega, top_pos c k, by rw [smalls_snoc, List.map_append]; rfl, _, rfl⟩
  · obtain ⟨rfl, rfl, y, rfl⟩ := h
    exact ⟨p2, rfl, _, .inl ⟨.of upd_same, fun l hl => q _ _ (s1.trans ((same_new hp2 _).trans (same_new hl _))) upd_same⟩⟩
end
abbrev slawword : Stmt := top 35
def splawword : Sp := fun vs H Q _ => ∃ (c : Int), vs = [.int c] ∧ ∀ H', Same H H' → Q (.str (wordF c)) H'
section
variable {P : Program} {w : World} {K : PySem.W.Frag} {mg : Str → Option Value} {base : Heap} {f : Addr} {fd : FuncData}
theorem sclawword : FnScope ["cell", "some", "way", "size"] ["cell"] (defScope slawword) := ⟨rfl, rfl, rfl, by decide +kernel, rfl, by decide +kernel, by decide +kernel⟩
theorem oklawword (F : Fun K "_law_word" "_law_word" slawword f fd) (clawdraw : Callee P w K mg base CX0 (1) "_law_draw" ["cell", "k", "many"] splawdraw) (zrange : mg "range" = none) : FnOk P w K mg base CX0 (2) f fd ["cell"] (splawword) := by
  have sc := sclawword
  refine F.ok sc (fun vs H Q E h => ?_) (fun cdv A outer s H vs Q E hr h => ?_)
  · obtain ⟨c, rfl, _⟩ := h; rfl
  obtain ⟨c, rfl, q⟩ := h
  refine ⟨_, (pss_cons (ps_set (i := 1) sc.nd rfl (by first | exact Or.inl rfl | exact Or.inr rfl) (pe_lst (pa_str (pa_str (pa_str (pa_str (pa_str (pa_str (pa_str (pa_str pa_nil)))))))))) (pss_cons (ps_set (i := 2) sc.nd rfl (by first | exact Or.inl rfl | exact Or.inr rfl) (pe_cal clawdraw hr (by rfl) pass0 (pa_cons (pv 0) (pa_cons pe_int (pa_cons pe_int pa_nil))))) (pss_cons (ps_if (pt_cmpR op_lt (pv 2) pe_int (nomark _)) (pss_one (ps_ret (pe_ix ix_list (pv 1) (pv 2) (fun _ _ => rfl)))) pss_nil) (pss_cons (ps_set (i := 3) sc.nd rfl (by first | exact Or.inl rfl | exact Or.inr rfl) (pe_op op_add pe_int (pe_cal clawdraw hr (by rfl) pass0 (pa_cons (pv 0) (pa_cons pe_int (pa_cons pe_int pa_nil)))))) (pss_one (ps_ret (pe_bm PySem.F.plainAttrs_str PySem.F.slot_str_join PySem.F.type_str_join mt_joinD pe_str (pa_cons (pe_comp (own := ["k"]) (fv := ["cell"]) (js := [0]) rfl (pi_range1 (by rfl) zrange (pa_cons (pv 3) pa_nil)) rfl (by decide) rfl (by decide) (by first | exact fun _ _ h => h | exact cl_sub1 rfl | exact cl_sub2 rfl rfl | exact cl_sub3 rfl rfl rfl) (has_of (by rfl)) rfl (cap1 (by first | exact ⟨rfl, .inl rfl, .inl rfl⟩ | exact ⟨rfl, .inl rfl, .inr rfl⟩)) (fun _ _ _ _ => (pg_name (i := 0) (show (["k", "cell"] : List Str).Nodup by decide +kernel) rfl (Or.inl rfl))) (fun _ _ _ _ => (pe_item_str pe_str (pe_cal clawdraw hr (by rfl) pass0 (pa_cons (pv 1) (pa_cons (pe_op op_add pe_int (pv 0)) (pa_cons pe_int pa_nil)))) (fun _ _ => rfl)))) pa_nil)))))))), ?_⟩
  wp_walk using tSeq, tyS, inV, eqV, splawdraw
  refine ⟨small (by decide), fun p hp => ?_⟩
  have s1 := same_new hp (.lst [V.str "neg", V.str "add", V.str "max", V.str "xor", V.str "zzzzzzzz", V.str "q", V.str "in", V.str "out"])
  have g1 : upd H p (.lst [V.str "neg", V.str "add", V.str "max", V.str "xor", V.str "zzzzzzzz", V.str "q", V.str "in", V.str "out"]) p = some (.lst (wl8.map V.str)) := upd_same
  generalize upd H p (.lst [V.str "neg", V.str "add", V.str "max", V.str "xor", V.str "zzzzzzzz", V.str "q", V.str "in", V.str "out"]) = H1 at *
  have r := draw_rng c 20 (show (0 : Int) < 12 by decide)
  have r8 := draw_rng c 21 (show (0 : Int) < 8 by decide)
  unfold wordF at q
  by_cases c8 : drawF c 20 12 < 8
  · rw [if_pos c8]
    rw [if_pos c8] at q
    exact ⟨_, .of g1, _, str_at r.1 (by show drawF c 20 12 < ((8 : Nat) : Int); omega), q _ s1⟩
  · rw [if_neg c8]
    rw [if_neg c8] at q
    refine ⟨by omega, by omega, ?_⟩
    generalize hz : (1 + drawF c 21 8).toNat = nz at *
    refine CompR.mk (fun i ys σ H2 => H2 = H1 ∧ ys = (lettersF c i).map V.str ∧ ∃ y, σ = [y, some (.int c)]) ⟨rfl, rfl, _, rfl⟩ (fun i ys σ H2 hi h => ?_) (fun ys σ H2 h p2 hp2 => ?_)
    · obtain ⟨rfl, rfl, y, rfl⟩ := h
      refine ⟨by rw [List.length_map, letters_len]; exact small1000 (by omega), ?_⟩
      wp_walk using tSeq, tyS, inV, eqV, splawdraw
      have r26 := draw_rng c (22 + (0 + (i : Int))) (show (0 : Int) < 26 by decide)
      refine ⟨by omega, by omega, r26.1, by omega, by rw [abc_len]; omega, _, abc_at ⟨(drawF c (22 + (0 + (i : Int))) 26).toNat, by omega⟩, ?_⟩
      exact ⟨by rw [letters_snoc, List.map_append]; rfl, _, rfl⟩
    · obtain ⟨rfl, rfl, y, rfl⟩ := h
      refine ⟨by decide +kernel, p2, rfl, _, .of upd_same, by rw [letters_len]; omega, fun y hy => ?_, fun _ => q _ (s1.trans (same_new hp2 _))⟩
      obtain ⟨j, hj, rfl⟩ := List.mem_map.mp hy
      have r26 := draw_rng c (22 + (0 + (j : Int))) (show (0 : Int) < 26 by decide)
      exact ⟨(show 1 ≤ 10 by decide), fun d hd => by cases List.mem_singleton.mp hd; omega⟩
end
abbrev slawbig : Stmt := top 36
def splawbig : Sp := fun vs H Q _ => ∃ (c : Int), vs = [.int c] ∧ ∀ H', Same H H' → Q (.int (bigF c)) H'
section
variable {P : Program} {w : World} {K : PySem.W.Frag} {mg : Str → Option Value} {base : Heap} {f : Addr} {fd : FuncData}
theorem sclawbig : FnScope ["cell", "way"] ["cell"] (defScope slawbig) := ⟨rfl, rfl, rfl, by decide +kernel, rfl, by decide +kernel, by decide +kernel⟩
theorem oklawbig (F : Fun K "_law_big" "_law_big" slawbig f fd) (clawdraw : Callee P w K mg base CX0 (1) "_law_draw" ["cell", "k", "many"] splawdraw) : FnOk P w K mg base CX0 (2) f fd ["cell"] (splawbig) := by
  have sc := sclawbig
  refine F.ok sc (fun vs H Q E h => ?_) (fun cdv A outer s H vs Q E hr h => ?_)
  · obtain ⟨c, rfl, _⟩ := h; rfl
  obtain ⟨c, rfl, q⟩ := h
  refine ⟨_, (pss_cons (ps_set (i := 1) sc.nd rfl (by first | exact Or.inl rfl | exact Or.inr rfl) (pe_cal clawdraw hr (by rfl) pass0 (pa_cons (pv 0) (pa_cons pe_int (pa_cons pe_int pa_nil))))) (pss_cons (ps_if (pt_cmpR op_eq (pv 1) pe_int (nomark _)) (pss_one (ps_ret (pe_ix ix_list (pe_lst (pa_cons (pe_un un_neg (pe_op op_pow pe_int pe_int)) (pa_cons (pe_op op_sub (pe_op op_pow pe_int pe_int) pe_int) (pa_cons pe_int (pa_cons (pe_un un_neg pe_int) pa_nil))))) (pe_cal clawdraw hr (by rfl) pass0 (pa_cons (pv 0) (pa_cons pe_int (pa_cons pe_int pa_nil)))) (fun _ _ => rfl)))) pss_nil) (pss_cons (ps_if (pt_cmpR op_eq (pv 1) pe_int (nomark _)) (pss_one (ps_ret (pe_op op_sub (pe_op op_mod (pv 0) pe_int) pe_int))) pss_nil) (pss_one (ps_ret (pe_op op_sub (pe_op op_mod (pv 0) (pe_op op_pow pe_int pe_int)) (pe_op op_pow pe_int pe_int))))))), ?_⟩
  wp_walk using tSeq, tyS, inV, eqV, splawdraw
  unfold bigF at q
  by_cases c0 : drawF c 4 4 = 0
  · rw [if_pos c0]
    rw [if_pos c0] at q
    refine ⟨small (by decide), fun p hp => ⟨_, .of upd_same, _, ?_, q _ (same_new hp _)⟩⟩
    have r := draw_rng c 5 (show (0 : Int) < 4 by decide)
    generalize drawF c 5 4 = z at *
    rcases (show z = 0 ∨ z = 1 ∨ z = 2 ∨ z = 3 by omega) with rfl | rfl | rfl | rfl <;> rfl
  rw [if_neg c0]
  rw [if_neg c0] at q
  by_cases c1 : drawF c 4 4 = 1
  · rw [if_pos c1]
    rw [if_pos c1] at q
    exact q _ (Same.refl _)
  rw [if_neg c1]
  rw [if_neg c1] at q
  exact q _ (Same.refl _)
end
abbrev slawmade : Stmt := top 37
def splawmade : Sp := fun vs H Q _ => ∃ (i : Nat) (c u0 u1 u2 : Int) (u : Addr), i < 15 ∧ vs = [.str (kindS i), .int c, .ref u] ∧ H u = some (.lst [.int u0, .int u1, .int u2]) ∧ ∀ H' p ra, Same H H' → H' p = some (.tup (madeV i ra c u0 u1 u2)) → H' ra = some (.tup ((rowF c).map V.int)) → Q (.ref p) H'
section
variable {P : Program} {w : World} {K : PySem.W.Frag} {mg : Str → Option Value} {base : Heap} {f : Addr} {fd : FuncData}
theorem sclawmade : FnScope ["kind", "cell", "used", "small", "row", "word"] ["kind", "cell", "used"] (defScope slawmade) := ⟨rfl, rfl, rfl, by decide +kernel, rfl, by decide +kernel, by decide +kernel⟩
theorem oklawmade (F : Fun K "_law_made" "_law_made" slawmade f fd) (clawsmalls : Callee P w K mg base CX0 (2) "_law_smalls" ["cell", "at", "many"] splawsmalls) (clawdraw : Callee P w K mg base CX0 (2) "_law_draw" ["cell", "k", "many"] splawdraw) (clawword : Callee P w K mg base CX0 (2) "_law_word" ["cell"] splawword) (clawbig : Callee P w K mg base CX0 (2) "_law_big" ["cell"] splawbig) : FnOk P w K mg base CX0 (3) f fd ["kind", "cell", "used"] (splawmade) := by
  have sc := sclawmade
  refine F.ok sc (fun vs H Q E h => ?_) (fun cdv A outer s H vs Q E hr h => ?_)
  · obtain ⟨i, c, u0, u1, u2, u, _, rfl, _⟩ := h; rfl
  obtain ⟨i, c, u0, u1, u2, u, hi, rfl, hu, q⟩ := h
  refine ⟨_, (pss_cons (ps_set (i := 3) sc.nd rfl (by first | exact Or.inl rfl | exact Or.inr rfl) (pe_cal clawsmalls hr (by rfl) pass0 (pa_cons (pv 1) (pa_cons pe_int (pa_cons pe_int pa_nil))))) (pss_cons (ps_set (i := 4) sc.nd rfl (by first | exact Or.inl rfl | exact Or.inr rfl) (pe_cal clawsmalls hr (by rfl) pass0 (pa_cons (pv 1) (pa_cons pe_int (pa_cons (pe_cal clawdraw hr (by rfl) pass0 (pa_cons (pv 1) (pa_cons pe_int (pa_cons pe_int pa_nil)))) pa_nil))))) (pss_cons (ps_set (i := 5) sc.nd rfl (by first | exact Or.inl rfl | exact Or.inr rfl) (pe_cal clawword hr (by rfl) pass0 (pa_cons (pv 1) pa_nil))) (pss_cons (ps_if (pt_cmpR op_eq (pv 0) pe_str (nomark _)) (pss_one (ps_ret (pe_tup (pa_cons pe_str (pa_cons (pv 4) pa_nil))))) pss_nil) (pss_cons (ps_if (pt_cmpR op_eq (pv 0) pe_str (nomark _)) (pss_one (ps_ret (pe_tup (pa_cons pe_str (pa_cons (pe_cal clawbig hr (by rfl) pass0 (pa_cons (pv 1) pa_nil)) pa_nil))))) pss_nil) (pss_cons (ps_if (pt_cmpR op_eq (pv 0) pe_str (nomark _)) (pss_one (ps_ret (pe_tup (pa_cons pe_str (pa_cons (pv 4) (pa_cons (pe_ix ix_tupH (pv 3) pe_int (fun _ _ => rfl)) pa_nil)))))) pss_nil) (pss_cons (ps_if (pt_cmpR op_eq (pv 0) pe_str (nomark _)) (pss_one (ps_ret (pe_tup (pa_cons pe_str (pa_cons (pv 5) (pa_cons (pe_ix ix_listH (pv 2) pe_int (fun _ _ => rfl)) pa_nil)))))) pss_nil) (pss_cons (ps_if (pt_cmpR op_eq (pv 0) pe_str (nomark _)) (pss_one (ps_ret (pe_tup (pa_cons pe_str (pa_cons (pv 5) (pa_cons (pe_ix ix_listH (pv 2) pe_int (fun _ _ => rfl)) (pa_cons (pe_ix ix_listH (pv 2) pe_int (fun _ _ => rfl)) pa_nil))))))) pss_nil) (pss_cons (ps_if (pt_cmpR op_eq (pv 0) pe_str (nomark _)) (pss_one (ps_ret (pe_tup (pa_cons pe_str (pa_cons (pe_ix ix_listH (pv 2) pe_int (fun _ _ => rfl)) (pa_cons (pe_ix ix_listH (pv 2) pe_int (fun _ _ => rfl)) (pa_cons (pe_ix ix_listH (pv 2) pe_int (fun _ _ => rfl)) pa_nil))))))) pss_nil) (pss_cons (ps_if (pw_or (pt_cmpR op_eq (pv 0) pe_str (nomark _)) (pw_or1 (pt_cmpR op_eq (pv 0) pe_str (nomark _)))).pt (pss_one (ps_ret (pe_tup (pa_cons (pv 0) (pa_cons (pe_ix ix_listH (pv 2) pe_int (fun _ _ => rfl)) (pa_cons (pv 4) pa_nil)))))) pss_nil) (pss_cons (ps_if (pt_cmpR op_eq (pv 0) pe_str (nomark _)) (pss_one (ps_ret (pe_tup (pa_cons pe_str (pa_cons (pe_ix ix_listH (pv 2) pe_int (fun _ _ => rfl)) (pa_cons (pe_ix ix_tupH (pv 3) pe_int (fun _ _ => rfl)) pa_nil)))))) pss_nil) (pss_cons (ps_if (pt_cmpR op_eq (pv 0) pe_str (nomark _)) (pss_one (ps_ret (pe_tup (pa_cons pe_str (pa_cons (pe_ix ix_listH (pv 2) pe_int (fun _ _ => rfl)) (pa_cons (pe_ix ix_tupH (pv 3) pe_int (fun _ _ => rfl)) (pa_cons (pe_ix ix_tupH (pv 3) pe_int (fun _ _ => rfl)) (pa_cons (pe_ix ix_tupH (pv 3) pe_int (fun _ _ => rfl)) (pa_cons (pe_ix ix_tupH (pv 3) pe_int (fun _ _ => rfl)) pa_nil))))))))) pss_nil) (pss_cons (ps_if (pt_cmpR op_eq (pv 0) pe_str (nomark _)) (pss_one (ps_ret (pe_tup (pa_cons pe_str (pa_cons (pe_ix ix_listH (pv 2) pe_int (fun _ _ => rfl)) (pa_cons (pe_ix ix_tupH (pv 3) pe_int (fun _ _ => rfl)) (pa_cons (pe_ix ix_tupH (pv 3) pe_int (fun _ _ => rfl)) pa_nil))))))) pss_nil) (pss_cons (ps_if (pt_cmpR op_eq (pv 0) pe_str (nomark _)) (pss_one (ps_ret (pe_tup (pa_cons pe_str (pa_cons (pe_ix ix_listH (pv 2) pe_int (fun _ _ => rfl)) (pa_cons (pe_ix ix_listH (pv 2) pe_int (fun _ _ => rfl)) (pa_cons (pe_ix ix_tupH (pv 3) pe_int (fun _ _ => rfl)) pa_nil))))))) pss_nil) (pss_cons (ps_if (pt_cmpR op_eq (pv 0) pe_str (nomark _)) (pss_one (ps_ret (pe_tup (pa_cons pe_str (pa_cons (pe_ix ix_listH (pv 2) pe_int (fun _ _ => rfl)) (pa_cons (pe_ix ix_listH (pv 2) pe_int (fun _ _ => rfl)) pa_nil)))))) pss_nil) (pss_one (ps_ret (pe_tup (pa_cons (pv 0) (pa_cons (pv 5) (pa_cons (pe_ix ix_listH (pv 2) pe_int (fun _ _ => rfl)) (pa_cons (pe_ix ix_tupH (pv 3) pe_int (fun _ _ => rfl)) pa_nil)))))))))))))))))))))), ?_⟩
  simp only [L2.start, List.length_cons, List.length_nil, List.replicate, List.cons_append, List.nil_append, Nat.reduceSub, Nat.reduceAdd, List.map_cons, List.map_nil]
  refine seq_with (fun σ H1 => ∃ sm, σ = [some (.str (kindS i)), some (.int c), some (.ref u), some (.ref sm), none, none] ∧ Same H H1 ∧ H1 sm = some (.tup [.int (smF c 0), .int (smF c 1), .int (smF c 2), .int (smF c 3)])) ?_ (fun R hR => ?_)
  rotate_left
  · wp_walk using tSeq, tyS, inV, eqV, splawsmalls
    exact fun H1 p s1 h1 => hR _ _ ⟨p, rfl, s1, h1⟩
  rintro σ1 H1 ⟨sm, rfl, s1, h1⟩
  refine seq_with (fun σ H2 => ∃ ra, σ = [some (.str (kindS i)), some (.int c), some (.ref u), some (.ref sm), some (.ref ra), none] ∧ Same H1 H2 ∧ H2 ra = some (.tup ((rowF c).map V.int))) ?_ (fun R hR => ?_)
  rotate_left
  · wp_walk using tSeq, tyS, inV, eqV, splawsmalls, splawdraw
    have r := draw_rng c 31 (show (0 : Int) < 9 by decide)
    exact ⟨r.1, by omega, fun H2 p s2 h2 => hR _ _ ⟨p, rfl, s2, h2⟩⟩
  rintro σ2 H2 ⟨ra, rfl, s2, h2⟩
  refine seq_with (fun σ H3 => σ = [some (.str (kindS i)), some (.int c), some (.ref u), some (.ref sm), some (.ref ra), some (.str (wordF c))] ∧ Same H2 H3) ?_ (fun R hR => ?_)
  rotate_left
  · wp_walk using tSeq, tyS, inV, eqV, splawword
    exact fun H3 s3 => hR _ _ ⟨rfl, s3⟩
  rintro σ3 H3 ⟨rfl, s3⟩
  have sm3 := s3 _ _ (s2 _ _ h1)
  have ra3 := s3 _ _ h2
  have u3 := s3 _ _ (s2 _ _ (s1 _ _ hu))
  have s03 := s1.trans (s2.trans s3)
  have fin : ∀ H4 p, Same H3 H4 → H4 p = some (.tup (madeV i ra c u0 u1 u2)) → Q (.ref p) H4 := fun H4 p s4 e => q _ _ ra (s03.trans s4) e (s4 _ _ ra3)
  clear q
  wp_walk using tSeq, tyS, inV, eqV, splawbig
  match i, hi with
  | 0, _ =>
    rw [if_pos (show kindS 0 = Str.ofString "in" by decide +kernel)]
    exact ⟨small (by decide), fun p hp => fin _ _ (same_new hp _) upd_same⟩
  | 1, _ =>
    rw [if_neg (show ¬ kindS 1 = Str.ofString "in" by decide +kernel), if_pos (show kindS 1 = Str.ofString "num" by decide +kernel)]
    exact fun H4 s4 => ⟨small (by decide), fun p hp => fin _ _ (s4.trans (same_new hp _)) upd_same⟩
  | 2, _ =>
    rw [if_neg (show ¬ kindS 2 = Str.ofString "in" by decide +kernel), if_neg (show ¬ kindS 2 = Str.ofString "num" by decide +kernel), if_pos (show kindS 2 = Str.ofString "count" by decide +kernel)]
    exact ⟨_, sm3, _, atI_nat (j := 0) rfl, small (by decide), fun p hp => fin _ _ (same_new hp _) upd_same⟩
  | 3, _ =>
    rw [if_neg (show ¬ kindS 3 = Str.ofString "in" by decide +kernel), if_neg (show ¬ kindS 3 = Str.ofString "num" by decide +kernel), if_neg (show ¬ kindS 3 = Str.ofString "count" by decide +kernel), if_pos (show kindS 3 = Str.ofString "each" by decide +kernel)]
    exact ⟨_, u3, _, atI_nat (j := 0) rfl, small (by decide), fun p hp => fin _ _ (same_new hp _) upd_same⟩
  | 4, _ =>
    rw [if_neg (show ¬ kindS 4 = Str.ofString "in" by decide +kernel), if_neg (show ¬ kindS 4 = Str.ofString "num" by decide +kernel), if_neg (show ¬ kindS 4 = Str.ofString "count" by decide +kernel), if_neg (show ¬ kindS 4 = Str.ofString "each" by decide +kernel), if_pos (show kindS 4 = Str.ofString "pair" by decide +kernel)]
    exact ⟨_, u3, _, atI_nat (j := 0) rfl, _, u3, _, atI_nat (j := 1) rfl, small (by decide), fun p hp => fin _ _ (same_new hp _) upd_same⟩
  | 5, _ =>
    rw [if_neg (show ¬ kindS 5 = Str.ofString "in" by decide +kernel), if_neg (show ¬ kindS 5 = Str.ofString "num" by decide +kernel), if_neg (show ¬ kindS 5 = Str.ofString "count" by decide +kernel), if_neg (show ¬ kindS 5 = Str.ofString "each" by decide +kernel), if_neg (show ¬ kindS 5 = Str.ofString "pair" by decide +kernel), if_pos (show kindS 5 = Str.ofString "pick" by decide +kernel)]
    exact ⟨_, u3, _, atI_nat (j := 0) rfl, _, u3, _, atI_nat (j := 1) rfl, _, u3, _, atI_nat (j := 2) rfl, small (by decide), fun p hp => fin _ _ (same_new hp _) upd_same⟩
  | 6, _ =>
    rw [if_neg (show ¬ kindS 6 = Str.ofString "in" by decide +kernel), if_neg (show ¬ kindS 6 = Str.ofString "num" by decide +kernel), if_neg (show ¬ kindS 6 = Str.ofString "count" by decide +kernel), if_neg (show ¬ kindS 6 = Str.ofString "each" by decide +kernel), if_neg (show ¬ kindS 6 = Str.ofString "pair" by decide +kernel), if_neg (show ¬ kindS 6 = Str.ofString "pick" by decide +kernel), if_pos (show kindS 6 = Str.ofString "turn" by decide +kernel)]
    exact ⟨_, u3, _, atI_nat (j := 0) rfl, small (by decide), fun p hp => fin _ _ (same_new hp _) upd_same⟩
  | 7, _ =>
    rw [if_neg (show ¬ kindS 7 = Str.ofString "in" by decide +kernel), if_neg (show ¬ kindS 7 = Str.ofString "num" by decide +kernel), if_neg (show ¬ kindS 7 = Str.ofString "count" by decide +kernel), if_neg (show ¬ kindS 7 = Str.ofString "each" by decide +kernel), if_neg (show ¬ kindS 7 = Str.ofString "pair" by decide +kernel), if_neg (show ¬ kindS 7 = Str.ofString "pick" by decide +kernel), if_neg (show ¬ kindS 7 = Str.ofString "turn" by decide +kernel), if_neg (show ¬ kindS 7 = Str.ofString "lay" by decide +kernel), if_pos (show kindS 7 = Str.ofString "flip" by decide +kernel)]
    exact ⟨_, u3, _, atI_nat (j := 0) rfl, _, sm3, _, atI_nat (j := 0) rfl, small (by decide), fun p hp => fin _ _ (same_new hp _) upd_same⟩
  | 8, _ =>
    rw [if_neg (show ¬ kindS 8 = Str.ofString "in" by decide +kernel), if_neg (show ¬ kindS 8 = Str.ofString "num" by decide +kernel), if_neg (show ¬ kindS 8 = Str.ofString "count" by decide +kernel), if_neg (show ¬ kindS 8 = Str.ofString "each" by decide +kernel), if_neg (show ¬ kindS 8 = Str.ofString "pair" by decide +kernel), if_neg (show ¬ kindS 8 = Str.ofString "pick" by decide +kernel), if_neg (show ¬ kindS 8 = Str.ofString "turn" by decide +kernel), if_neg (show ¬ kindS 8 = Str.ofString "lay" by decide +kernel), if_neg (show ¬ kindS 8 = Str.ofString "flip" by decide +kernel), if_pos (show kindS 8 = Str.ofString "cut" by decide +kernel)]
    exact ⟨_, u3, _, atI_nat (j := 0) rfl, _, sm3, _, atI_nat (j := 0) rfl, _, sm3, _, atI_nat (j := 1) rfl, _, sm3, _, atI_nat (j := 2) rfl, _, sm3, _, atI_nat (j := 3) rfl, small (by decide), fun p hp => fin _ _ (same_new hp _) upd_same⟩
  | 9, _ =>
    rw [if_neg (show ¬ kindS 9 = Str.ofString "in" by decide +kernel), if_neg (show ¬ kindS 9 = Str.ofString "num" by decide +kernel), if_neg (show ¬ kindS 9 = Str.ofString "count" by decide +kernel), if_neg (show ¬ kindS 9 = Str.ofString "each" by decide +kernel), if_neg (show ¬ kindS 9 = Str.ofString "pair" by decide +kernel), if_neg (show ¬ kindS 9 = Str.ofString "pick" by decide +kernel), if_neg (show ¬ kindS 9 = Str.ofString "turn" by decide +kernel), if_neg (show ¬ kindS 9 = Str.ofString "lay" by decide +kernel), if_neg (show ¬ kindS 9 = Str.ofString "flip" by decide +kernel), if_neg (show ¬ kindS 9 = Str.ofString "cut" by decide +kernel), if_pos (show kindS 9 = Str.ofString "spread" by decide +kernel)]
    exact ⟨_, u3, _, atI_nat (j := 0) rfl, _, sm3, _, atI_nat (j := 0) rfl, _, sm3, _, atI_nat (j := 1) rfl, small (by decide), fun p hp => fin _ _ (same_new hp _) upd_same⟩
  | 10, _ =>
    rw [if_neg (show ¬ kindS 10 = Str.ofString "in" by decide +kernel), if_neg (show ¬ kindS 10 = Str.ofString "num" by decide +kernel), if_neg (show ¬ kindS 10 = Str.ofString "count" by decide +kernel), if_neg (show ¬ kindS 10 = Str.ofString "each" by decide +kernel), if_neg (show ¬ kindS 10 = Str.ofString "pair" by decide +kernel), if_neg (show ¬ kindS 10 = Str.ofString "pick" by decide +kernel), if_neg (show ¬ kindS 10 = Str.ofString "turn" by decide +kernel), if_pos (show kindS 10 = Str.ofString "lay" by decide +kernel)]
    exact ⟨_, u3, _, atI_nat (j := 0) rfl, small (by decide), fun p hp => fin _ _ (same_new hp _) upd_same⟩
  | 11, _ =>
    rw [if_neg (show ¬ kindS 11 = Str.ofString "in" by decide +kernel), if_neg (show ¬ kindS 11 = Str.ofString "num" by decide +kernel), if_neg (show ¬ kindS 11 = Str.ofString "count" by decide +kernel), if_neg (show ¬ kindS 11 = Str.ofString "each" by decide +kernel), if_neg (show ¬ kindS 11 = Str.ofString "pair" by decide +kernel), if_neg (show ¬ kindS 11 = Str.ofString "pick" by decide +kernel), if_neg (show ¬ kindS 11 = Str.ofString "turn" by decide +kernel), if_neg (show ¬ kindS 11 = Str.ofString "lay" by decide +kernel), if_neg (show ¬ kindS 11 = Str.ofString "flip" by decide +kernel), if_neg (show ¬ kindS 11 = Str.ofString "cut" by decide +kernel), if_neg (show ¬ kindS 11 = Str.ofString "spread" by decide +kernel), if_pos (show kindS 11 = Str.ofString "join" by decide +kernel)]
    exact ⟨_, u3, _, atI_nat (j := 0) rfl, _, u3, _, atI_nat (j := 1) rfl, _, sm3, _, atI_nat (j := 0) rfl, small (by decide), fun p hp => fin _ _ (same_new hp _) upd_same⟩
  | 12, _ =>
    rw [if_neg (show ¬ kindS 12 = Str.ofString "in" by decide +kernel), if_neg (show ¬ kindS 12 = Str.ofString "num" by decide +kernel), if_neg (show ¬ kindS 12 = Str.ofString "count" by decide +kernel), if_neg (show ¬ kindS 12 = Str.ofString "each" by decide +kernel), if_neg (show ¬ kindS 12 = Str.ofString "pair" by decide +kernel), if_neg (show ¬ kindS 12 = Str.ofString "pick" by decide +kernel), if_neg (show ¬ kindS 12 = Str.ofString "turn" by decide +kernel), if_neg (show ¬ kindS 12 = Str.ofString "lay" by decide +kernel), if_neg (show ¬ kindS 12 = Str.ofString "flip" by decide +kernel), if_neg (show ¬ kindS 12 = Str.ofString "cut" by decide +kernel), if_neg (show ¬ kindS 12 = Str.ofString "spread" by decide +kernel), if_neg (show ¬ kindS 12 = Str.ofString "join" by decide +kernel), if_pos (show kindS 12 = Str.ofString "fetch" by decide +kernel)]
    exact ⟨_, u3, _, atI_nat (j := 0) rfl, _, u3, _, atI_nat (j := 1) rfl, small (by decide), fun p hp => fin _ _ (same_new hp _) upd_same⟩
  | 13, _ =>
    rw [if_neg (show ¬ kindS 13 = Str.ofString "in" by decide +kernel), if_neg (show ¬ kindS 13 = Str.ofString "num" by decide +kernel), if_neg (show ¬ kindS 13 = Str.ofString "count" by decide +kernel), if_neg (show ¬ kindS 13 = Str.ofString "each" by decide +kernel), if_neg (show ¬ kindS 13 = Str.ofString "pair" by decide +kernel), if_neg (show ¬ kindS 13 = Str.ofString "pick" by decide +kernel), if_neg (show ¬ kindS 13 = Str.ofString "turn" by decide +kernel), if_neg (show ¬ kindS 13 = Str.ofString "lay" by decide +kernel), if_neg (show ¬ kindS 13 = Str.ofString "flip" by decide +kernel), if_neg (show ¬ kindS 13 = Str.ofString "cut" by decide +kernel), if_neg (show ¬ kindS 13 = Str.ofString "spread" by decide +kernel), if_neg (show ¬ kindS 13 = Str.ofString "join" by decide +kernel), if_neg (show ¬ kindS 13 = Str.ofString "fetch" by decide +kernel)]
    exact ⟨_, u3, _, atI_nat (j := 0) rfl, _, sm3, _, atI_nat (j := 0) rfl, small (by decide), fun p hp => fin _ _ (same_new hp _) upd_same⟩
  | 14, _ =>
    rw [if_neg (show ¬ kindS 14 = Str.ofString "in" by decide +kernel), if_neg (show ¬ kindS 14 = Str.ofString "num" by decide +kernel), if_neg (show ¬ kindS 14 = Str.ofString "count" by decide +kernel), if_neg (show ¬ kindS 14 = Str.ofString "each" by decide +kernel), if_neg (show ¬ kindS 14 = Str.ofString "pair" by decide +kernel), if_neg (show ¬ kindS 14 = Str.ofString "pick" by decide +kernel), if_neg (show ¬ kindS 14 = Str.ofString "turn" by decide +kernel), if_neg (show ¬ kindS 14 = Str.ofString "lay" by decide +kernel), if_neg (show ¬ kindS 14 = Str.ofString "flip" by decide +kernel), if_neg (show ¬ kindS 14 = Str.ofString "cut" by decide +kernel), if_neg (show ¬ kindS 14 = Str.ofString "spread" by decide +kernel), if_neg (show ¬ kindS 14 = Str.ofString "join" by decide +kernel), if_neg (show ¬ kindS 14 = Str.ofString "fetch" by decide +kernel)]
    exact ⟨_, u3, _, atI_nat (j := 0) rfl, _, sm3, _, atI_nat (j := 0) rfl, small (by decide), fun p hp => fin _ _ (same_new hp _) upd_same⟩
  | n + 15, h => exact absurd h (by omega)
end
abbrev slawkind : Stmt := top 38
def splawkind : Sp := fun vs H Q _ => ∃ c k : Int, vs = [.int c, .int k] ∧ ∀ H' i, i < 15 → (k = 0 → i < 3) → Same H H' → Q (.str (kindS i)) H'
@[irreducible] def wplawkind : List (Str × Pos) := [("in", ⟨172, 12, 172, 16⟩), ("num", ⟨172, 18, 172, 23⟩), ("count", ⟨172, 25, 172, 32⟩), ("each", ⟨172, 34, 172, 40⟩), ("pair", ⟨172, 42, 172, 48⟩), ("pick", ⟨172, 50, 172, 56⟩), ("turn", ⟨172, 58, 172, 64⟩), ("flip", ⟨172, 66, 172, 72⟩), ("cut", ⟨172, 74, 172, 79⟩), ("spread", ⟨172, 81, 172, 89⟩), ("lay", ⟨172, 91, 172, 96⟩), ("join", ⟨172, 98, 172, 104⟩)]
theorem bwlawkind : defBody slawkind = [.Assign [.Name "some" ⟨172, 4, 172, 8⟩] (.List (strsC wplawkind) ⟨172, 11, 172, 105⟩) ⟨172, 4, 172, 105⟩, (defBody slawkind).getD 1 (.Pass ⟨0, 0, 0, 0⟩), (defBody slawkind).getD 2 (.Pass ⟨0, 0, 0, 0⟩), (defBody slawkind).getD 3 (.Pass ⟨0, 0, 0, 0⟩)] := by kernel_rfl
theorem wvlawkind : (wplawkind.map (·.1)).map V.str = [V.str "in", V.str "num", V.str "count", V.str "each", V.str "pair", V.str "pick", V.str "turn", V.str "flip", V.str "cut", V.str "spread", V.str "lay", V.str "join"] := by unfold wplawkind; rfl
section
variable {P : Program} {w : World} {K : PySem.W.Frag} {mg : Str → Option Value} {base : Heap} {f : Addr} {fd : FuncData}
theorem sclawkind : FnScope ["cell", "ahead", "some"] ["cell", "ahead"] (defScope slawkind) := ⟨rfl, rfl, rfl, by decide +kernel, rfl, by decide +kernel, by decide +kernel⟩
theorem oklawkind (F : Fun K "_law_kind" "_law_kind" slawkind f fd) (clawdraw : Callee P w K mg base CX0 (1) "_law_draw" ["cell", "k", "many"] splawdraw) : FnOk P w K mg base CX0 (2) f fd ["cell", "ahead"] (splawkind) := by
  have sc := sclawkind
  refine F.ok sc (fun vs H Q E h => ?_) (fun cdv A outer s H vs Q E hr h => ?_)
  · obtain ⟨c, k, rfl, _⟩ := h; rfl
  obtain ⟨c, k, rfl, q⟩ := h
  rw [bwlawkind]
  refine ⟨_, (pss_cons (ps_set (i := 2) sc.nd rfl (by first | exact Or.inl rfl | exact Or.inr rfl) (pe_lst (pa_strs wplawkind))) (pss_cons (ps_set (i := 2) sc.nd rfl (by first | exact Or.inl rfl | exact Or.inr rfl) (pe_op op_cat (pv 2) (pe_lst (pa_cons pe_str (pa_cons pe_str (pa_cons pe_str pa_nil)))))) (pss_cons (ps_if (pt_cmpR op_eq (pv 1) pe_int (nomark _)) (pss_one (ps_ret (pe_ix ix_list (pv 2) (pe_cal clawdraw hr (by rfl) pass0 (pa_cons (pv 0) (pa_cons pe_int (pa_cons pe_int pa_nil)))) (fun _ _ => rfl)))) pss_nil) (pss_one (ps_ret (pe_ix ix_list (pv 2) (pe_cal clawdraw hr (by rfl) pass0 (pa_cons (pv 0) (pa_cons pe_int (pa_cons pe_int pa_nil)))) (fun _ _ => rfl))))))), ?_⟩
  wp_walk using tSeq, tyS, inV, eqV, splawdraw, tStrs
  rw [wvlawkind]
  wp_walk using tSeq, tyS, inV, eqV
  refine ⟨small (by decide), fun p hp => ⟨small (by decide), fun p1 hp1 => ⟨_, same_new hp1 _ _ _ upd_same, small (by decide), fun p2 hp2 => ?_⟩⟩⟩
  have r := draw_rng c 30 (show (0 : Int) < 15 by decide)
  have r3 := draw_rng c 30 (show (0 : Int) < 3 by decide)
  split
  · exact ⟨kinds.map V.str, .of upd_same, _, str_at (ws := kinds) r3.1 (by show drawF c 30 3 < ((15 : Nat) : Int); omega), q _ _ (by omega) (fun z => by omega) ((same_new hp _).trans ((same_new hp1 _).trans (same_new hp2 _)))⟩
  · exact ⟨kinds.map V.str, .of upd_same, _, str_at (ws := kinds) r.1 (by show drawF c 30 15 < ((15 : Nat) : Int); omega), q _ _ (by omega) (fun z => by omega) ((same_new hp _).trans ((same_new hp1 _).trans (same_new hp2 _)))⟩
end
abbrev slawspots : Stmt := top 45
def splawspots : Sp := fun vs H Q _ => ∃ i : Nat, i < 15 ∧ vs = [.str (kindS i)] ∧ ∀ H' p, Same H H' → H' p = some (.lst ((argsP i).map V.int)) → Q (.ref p) H'
section
variable {P : Program} {w : World} {K : PySem.W.Frag} {mg : Str → Option Value} {base : Heap} {f : Addr} {fd : FuncData}
theorem sclawspots : FnScope ["kind"] ["kind"] (defScope slawspots) := ⟨rfl, rfl, rfl, by decide +kernel, rfl, by decide +kernel, by decide +kernel⟩
theorem oklawspots (F : Fun K "_law_spots" "_law_spots" slawspots f fd) : FnOk P w K mg base CX0 (1) f fd ["kind"] (splawspots) := by
  have sc := sclawspots
  refine F.ok sc (fun vs H Q E h => ?_) (fun cdv A outer s H vs Q E hr h => ?_)
  · obtain ⟨i, _, rfl, _⟩ := h; rfl
  obtain ⟨i, hi, rfl, q⟩ := h
  refine ⟨_, (pss_cons (ps_if (pw_or (pt_cmpR op_eq (pv 0) pe_str (nomark _)) (pw_or (pt_cmpR op_eq (pv 0) pe_str (nomark _)) (pw_or1 (pt_cmpR op_eq (pv 0) pe_str (nomark _))))).pt (pss_one (ps_ret (pe_lst pa_nil))) pss_nil) (pss_cons (ps_if (pt_cmpR op_eq (pv 0) pe_str (nomark _)) (pss_one (ps_ret (pe_lst (pa_cons pe_int (pa_cons pe_int (pa_cons pe_int pa_nil)))))) pss_nil) (pss_cons (ps_if (pt_cmpR op_eq (pv 0) pe_str (nomark _)) (pss_one (ps_ret (pe_lst (pa_cons pe_int (pa_cons pe_int pa_nil))))) pss_nil) (pss_cons (ps_if (pw_or (pt_cmpR op_eq (pv 0) pe_str (nomark _)) (pw_or (pt_cmpR op_eq (pv 0) pe_str (nomark _)) (pw_or1 (pt_cmpR op_eq (pv 0) pe_str (nomark _))))).pt (pss_one (ps_ret (pe_lst (pa_cons pe_int pa_nil)))) pss_nil) (pss_cons (ps_if (pw_or (pt_cmpR op_eq (pv 0) pe_str (nomark _)) (pw_or1 (pt_cmpR op_eq (pv 0) pe_str (nomark _)))).pt (pss_one (ps_ret (pe_lst (pa_cons pe_int (pa_cons pe_int pa_nil))))) pss_nil) (pss_one (ps_ret (pe_lst (pa_cons pe_int pa_nil))))))))), ?_⟩
  wp_walk using tSeq, tyS, inV, eqV
  match i, hi with
  | 0, _ =>
    rw [if_neg (show ¬ kindS 0 = Str.ofString "num" by decide +kernel), if_pos (show kindS 0 = Str.ofString "in" by decide +kernel)]
    rw [show argsP 0 = [] by decide +kernel] at q
    exact ⟨small (by decide), fun p hp => q _ _ (same_new hp _) upd_same⟩
  | 1, _ =>
    rw [if_pos (show kindS 1 = Str.ofString "num" by decide +kernel)]
    rw [show argsP 1 = [] by decide +kernel] at q
    exact ⟨small (by decide), fun p hp => q _ _ (same_new hp _) upd_same⟩
  | 2, _ =>
    rw [if_neg (show ¬ kindS 2 = Str.ofString "num" by decide +kernel), if_neg (show ¬ kindS 2 = Str.ofString "in" by decide +kernel), if_pos (show kindS 2 = Str.ofString "count" by decide +kernel)]
    rw [show argsP 2 = [] by decide +kernel] at q
    exact ⟨small (by decide), fun p hp => q _ _ (same_new hp _) upd_same⟩
  | 3, _ =>
    rw [if_neg (show ¬ kindS 3 = Str.ofString "num" by decide +kernel), if_neg (show ¬ kindS 3 = Str.ofString "in" by decide +kernel), if_neg (show ¬ kindS 3 = Str.ofString "count" by decide +kernel), if_neg (show ¬ kindS 3 = Str.ofString "pick" by decide +kernel), if_neg (show ¬ kindS 3 = Str.ofString "pair" by decide +kernel), if_pos (show kindS 3 = Str.ofString "each" by decide +kernel)]
    rw [show argsP 3 = [2] by decide +kernel] at q
    exact ⟨small (by decide), fun p hp => q _ _ (same_new hp _) upd_same⟩
  | 4, _ =>
    rw [if_neg (show ¬ kindS 4 = Str.ofString "num" by decide +kernel), if_neg (show ¬ kindS 4 = Str.ofString "in" by decide +kernel), if_neg (show ¬ kindS 4 = Str.ofString "count" by decide +kernel), if_neg (show ¬ kindS 4 = Str.ofString "pick" by decide +kernel), if_pos (show kindS 4 = Str.ofString "pair" by decide +kernel)]
    rw [show argsP 4 = [2, 3] by decide +kernel] at q
    exact ⟨small (by decide), fun p hp => q _ _ (same_new hp _) upd_same⟩
  | 5, _ =>
    rw [if_neg (show ¬ kindS 5 = Str.ofString "num" by decide +kernel), if_neg (show ¬ kindS 5 = Str.ofString "in" by decide +kernel), if_neg (show ¬ kindS 5 = Str.ofString "count" by decide +kernel), if_pos (show kindS 5 = Str.ofString "pick" by decide +kernel)]
    rw [show argsP 5 = [1, 2, 3] by decide +kernel] at q
    exact ⟨small (by decide), fun p hp => q _ _ (same_new hp _) upd_same⟩
  | 6, _ =>
    rw [if_neg (show ¬ kindS 6 = Str.ofString "num" by decide +kernel), if_neg (show ¬ kindS 6 = Str.ofString "in" by decide +kernel), if_neg (show ¬ kindS 6 = Str.ofString "count" by decide +kernel), if_neg (show ¬ kindS 6 = Str.ofString "pick" by decide +kernel), if_neg (show ¬ kindS 6 = Str.ofString "pair" by decide +kernel), if_neg (show ¬ kindS 6 = Str.ofString "each" by decide +kernel), if_neg (show ¬ kindS 6 = Str.ofString "fold" by decide +kernel), if_neg (show ¬ kindS 6 = Str.ofString "run" by decide +kernel), if_neg (show ¬ kindS 6 = Str.ofString "join" by decide +kernel), if_neg (show ¬ kindS 6 = Str.ofString "fetch" by decide +kernel)]
    rw [show argsP 6 = [1] by decide +kernel] at q
    exact ⟨small (by decide), fun p hp => q _ _ (same_new hp _) upd_same⟩
  | 7, _ =>
    rw [if_neg (show ¬ kindS 7 = Str.ofString "num" by decide +kernel), if_neg (show ¬ kindS 7 = Str.ofString "in" by decide +kernel), if_neg (show ¬ kindS 7 = Str.ofString "count" by decide +kernel), if_neg (show ¬ kindS 7 = Str.ofString "pick" by decide +kernel), if_neg (show ¬ kindS 7 = Str.ofString "pair" by decide +kernel), if_neg (show ¬ kindS 7 = Str.ofString "each" by decide +kernel), if_neg (show ¬ kindS 7 = Str.ofString "fold" by decide +kernel), if_neg (show ¬ kindS 7 = Str.ofString "run" by decide +kernel), if_neg (show ¬ kindS 7 = Str.ofString "join" by decide +kernel), if_neg (show ¬ kindS 7 = Str.ofString "fetch" by decide +kernel)]
    rw [show argsP 7 = [1] by decide +kernel] at q
    exact ⟨small (by decide), fun p hp => q _ _ (same_new hp _) upd_same⟩
  | 8, _ =>
    rw [if_neg (show ¬ kindS 8 = Str.ofString "num" by decide +kernel), if_neg (show ¬ kindS 8 = Str.ofString "in" by decide +kernel), if_neg (show ¬ kindS 8 = Str.ofString "count" by decide +kernel), if_neg (show ¬ kindS 8 = Str.ofString "pick" by decide +kernel), if_neg (show ¬ kindS 8 = Str.ofString "pair" by decide +kernel), if_neg (show ¬ kindS 8 = Str.ofString "each" by decide +kernel), if_neg (show ¬ kindS 8 = Str.ofString "fold" by decide +kernel), if_neg (show ¬ kindS 8 = Str.ofString "run" by decide +kernel), if_neg (show ¬ kindS 8 = Str.ofString "join" by decide +kernel), if_neg (show ¬ kindS 8 = Str.ofString "fetch" by decide +kernel)]
    rw [show argsP 8 = [1] by decide +kernel] at q
    exact ⟨small (by decide), fun p hp => q _ _ (same_new hp _) upd_same⟩
  | 9, _ =>
    rw [if_neg (show ¬ kindS 9 = Str.ofString "num" by decide +kernel), if_neg (show ¬ kindS 9 = Str.ofString "in" by decide +kernel), if_neg (show ¬ kindS 9 = Str.ofString "count" by decide +kernel), if_neg (show ¬ kindS 9 = Str.ofString "pick" by decide +kernel), if_neg (show ¬ kindS 9 = Str.ofString "pair" by decide +kernel), if_neg (show ¬ kindS 9 = Str.ofString "each" by decide +kernel), if_neg (show ¬ kindS 9 = Str.ofString "fold" by decide +kernel), if_neg (show ¬ kindS 9 = Str.ofString "run" by decide +kernel), if_neg (show ¬ kindS 9 = Str.ofString "join" by decide +kernel), if_neg (show ¬ kindS 9 = Str.ofString "fetch" by decide +kernel)]
    rw [show argsP 9 = [1] by decide +kernel] at q
    exact ⟨small (by decide), fun p hp => q _ _ (same_new hp _) upd_same⟩
  | 10, _ =>
    rw [if_neg (show ¬ kindS 10 = Str.ofString "num" by decide +kernel), if_neg (show ¬ kindS 10 = Str.ofString "in" by decide +kernel), if_neg (show ¬ kindS 10 = Str.ofString "count" by decide +kernel), if_neg (show ¬ kindS 10 = Str.ofString "pick" by decide +kernel), if_neg (show ¬ kindS 10 = Str.ofString "pair" by decide +kernel), if_neg (show ¬ kindS 10 = Str.ofString "each" by decide +kernel), if_neg (show ¬ kindS 10 = Str.ofString "fold" by decide +kernel), if_neg (show ¬ kindS 10 = Str.ofString "run" by decide +kernel), if_neg (show ¬ kindS 10 = Str.ofString "join" by decide +kernel), if_neg (show ¬ kindS 10 = Str.ofString "fetch" by decide +kernel)]
    rw [show argsP 10 = [1] by decide +kernel] at q
    exact ⟨small (by decide), fun p hp => q _ _ (same_new hp _) upd_same⟩
  | 11, _ =>
    rw [if_neg (show ¬ kindS 11 = Str.ofString "num" by decide +kernel), if_neg (show ¬ kindS 11 = Str.ofString "in" by decide +kernel), if_neg (show ¬ kindS 11 = Str.ofString "count" by decide +kernel), if_neg (show ¬ kindS 11 = Str.ofString "pick" by decide +kernel), if_neg (show ¬ kindS 11 = Str.ofString "pair" by decide +kernel), if_neg (show ¬ kindS 11 = Str.ofString "each" by decide +kernel), if_neg (show ¬ kindS 11 = Str.ofString "fold" by decide +kernel), if_neg (show ¬ kindS 11 = Str.ofString "run" by decide +kernel), if_pos (show kindS 11 = Str.ofString "join" by decide +kernel)]
    rw [show argsP 11 = [1, 2] by decide +kernel] at q
    exact ⟨small (by decide), fun p hp => q _ _ (same_new hp _) upd_same⟩
  | 12, _ =>
    rw [if_neg (show ¬ kindS 12 = Str.ofString "num" by decide +kernel), if_neg (show ¬ kindS 12 = Str.ofString "in" by decide +kernel), if_neg (show ¬ kindS 12 = Str.ofString "count" by decide +kernel), if_neg (show ¬ kindS 12 = Str.ofString "pick" by decide +kernel), if_neg (show ¬ kindS 12 = Str.ofString "pair" by decide +kernel), if_neg (show ¬ kindS 12 = Str.ofString "each" by decide +kernel), if_neg (show ¬ kindS 12 = Str.ofString "fold" by decide +kernel), if_neg (show ¬ kindS 12 = Str.ofString "run" by decide +kernel), if_neg (show ¬ kindS 12 = Str.ofString "join" by decide +kernel), if_pos (show kindS 12 = Str.ofString "fetch" by decide +kernel)]
    rw [show argsP 12 = [1, 2] by decide +kernel] at q
    exact ⟨small (by decide), fun p hp => q _ _ (same_new hp _) upd_same⟩
  | 13, _ =>
    rw [if_neg (show ¬ kindS 13 = Str.ofString "num" by decide +kernel), if_neg (show ¬ kindS 13 = Str.ofString "in" by decide +kernel), if_neg (show ¬ kindS 13 = Str.ofString "count" by decide +kernel), if_neg (show ¬ kindS 13 = Str.ofString "pick" by decide +kernel), if_neg (show ¬ kindS 13 = Str.ofString "pair" by decide +kernel), if_neg (show ¬ kindS 13 = Str.ofString "each" by decide +kernel), if_pos (show kindS 13 = Str.ofString "fold" by decide +kernel)]
    rw [show argsP 13 = [2] by decide +kernel] at q
    exact ⟨small (by decide), fun p hp => q _ _ (same_new hp _) upd_same⟩
  | 14, _ =>
    rw [if_neg (show ¬ kindS 14 = Str.ofString "num" by decide +kernel), if_neg (show ¬ kindS 14 = Str.ofString "in" by decide +kernel), if_neg (show ¬ kindS 14 = Str.ofString "count" by decide +kernel), if_neg (show ¬ kindS 14 = Str.ofString "pick" by decide +kernel), if_neg (show ¬ kindS 14 = Str.ofString "pair" by decide +kernel), if_neg (show ¬ kindS 14 = Str.ofString "each" by decide +kernel), if_neg (show ¬ kindS 14 = Str.ofString "fold" by decide +kernel), if_pos (show kindS 14 = Str.ofString "run" by decide +kernel)]
    rw [show argsP 14 = [2] by decide +kernel] at q
    exact ⟨small (by decide), fun p hp => q _ _ (same_new hp _) upd_same⟩
  | n + 15, h => exact absurd h (by omega)
end
abbrev slawpart : Stmt := top 44
def splawpart : Sp := fun vs H Q _ => ∃ (a na : Addr) (i k : Nat) (xs : List V) (nm : List Str) (n : Int) (z : Str), vs = [.ref a, .int (k : Int), .ref na] ∧ i < 15 ∧ H a = some (.tup xs) ∧ xs[0]? = some (.str (kindS i)) ∧ xs[k]? = some (.int n) ∧ NmAt H na nm ∧ (((k : Int) ∈ argsP i ∧ ∃ u : Nat, n = (u : Int) ∧ nm[u]? = some z) ∨ ((k : Int) ∉ argsP i ∧ n.natAbs < 10 ^ 20 ∧ z = sI n)) ∧ ∀ H', Same H H' → Q (.str z) H'
section
variable {P : Program} {w : World} {K : PySem.W.Frag} {mg : Str → Option Value} {base : Heap} {f : Addr} {fd : FuncData}
theorem sclawpart : FnScope ["step", "k", "names"] ["step", "k", "names"] (defScope slawpart) := ⟨rfl, rfl, rfl, by decide +kernel, rfl, by decide +kernel, by decide +kernel⟩
theorem oklawpart (F : Fun K "_law_part" "_law_part" slawpart f fd) (clawspots : Callee P w K mg base CX0 (1) "_law_spots" ["kind"] splawspots) (zstr : mg "str" = none) : FnOk P w K mg base CX0 (2) f fd ["step", "k", "names"] (splawpart) := by
  have sc := sclawpart
  refine F.ok sc (fun vs H Q E h => ?_) (fun cdv A outer s H vs Q E hr h => ?_)
  · obtain ⟨a, na, i, k, xs, nm, n, z, rfl, _⟩ := h; rfl
  obtain ⟨a, na, i, k, xs, nm, n, z, rfl, hi, ha, h0, hk, hn, hz, q⟩ := h
  refine ⟨_, (pss_cons (ps_if (pt_cmpR op_inL (pv 1) (pe_cal clawspots hr (by rfl) pass0 (pa_cons (pe_ix ix_tupH (pv 0) pe_int (fun _ _ => rfl)) pa_nil)) rfl) (pss_one (ps_ret (pe_ix ix_seqH (pv 2) (pe_ix ix_tupH (pv 0) (pv 1) (fun _ _ => rfl)) (fun _ _ => rfl)))) pss_nil) (pss_one (ps_ret (pe_callTy call_strI (by rfl) zstr boot_str (pa_cons (pe_ix ix_tupH (pv 0) (pv 1) (fun _ _ => rfl)) pa_nil))))), ?_⟩
  wp_walk using tSeq, tyS, splawspots
  refine ⟨_, ha, _, atI_nat h0, i, hi, rfl, fun H1 p s1 h1 => ?_⟩
  refine ⟨_, h1, flat_ints _, ?_⟩
  rcases hz with ⟨m, u, rfl, hu⟩ | ⟨m, b, rfl⟩
  · rw [if_pos (by rw [inV_ints]; exact decide_eq_true m)]
    exact ⟨_, s1 _ _ ha, _, atI_nat hk, _, _, rfl, hn.same s1, _, atI_nat (by rw [List.getElem?_map, hu]; rfl), q _ s1⟩
  · rw [if_neg (by rw [inV_ints]; simpa using m)]
    exact ⟨_, s1 _ _ ha, _, atI_nat hk, n, rfl, log_20 b, q _ s1⟩
end
abbrev slawrow : Stmt := top 43
def splawrow : Sp := fun vs H Q _ => ∃ (name : Str) (a na : Addr) (d : Sd) (nm : List Str), vs = [.str name, .ref a, .ref na] ∧ SdAt H d a ∧ SdOk nm.length d ∧ NmAt H na nm ∧ nmOk nm ∧ name.length ≤ 20 ∧ ∀ H', Same H H' → Q (.str (rowS d name nm)) H'
section
variable {P : Program} {w : World} {K : PySem.W.Frag} {mg : Str → Option Value} {base : Heap} {f : Addr} {fd : FuncData}
theorem sclawrow : FnScope ["name", "step", "names", "kind", "words", "k", "part"] ["name", "step", "names"] (defScope slawrow) := ⟨rfl, rfl, rfl, by decide +kernel, rfl, by decide +kernel, by decide +kernel⟩
theorem oklawrow (F : Fun K "_law_row" "_law_row" slawrow f fd) (clawpart : Callee P w K mg base CX0 (2) "_law_part" ["step", "k", "names"] splawpart) (zlen : mg "len" = none) (zrange : mg "range" = none) (zisinstance : mg "isinstance" = none) (ztuple : mg "tuple" = none) (zstr : mg "str" = none) : FnOk P w K mg base CX0 (3) f fd ["name", "step", "names"] (splawrow) := by
  have sc := sclawrow
  refine F.ok sc (fun vs H Q E h => ?_) (fun cdv A outer s H vs Q E hr h => ?_)
  · obtain ⟨name, a, na, d, nm, rfl, _⟩ := h; rfl
  obtain ⟨name, a, na, d, nm, rfl, ⟨ra, ha, hra⟩, ok, hn, no, nl, q⟩ := h
  refine ⟨_, (pss_cons (ps_set (i := 3) sc.nd rfl (by first | exact Or.inl rfl | exact Or.inr rfl) (pe_ix ix_tupH (pv 1) pe_int (fun _ _ => rfl))) (pss_cons (ps_set (i := 4) sc.nd rfl (by first | exact Or.inl rfl | exact Or.inr rfl) (pe_lst (pa_cons (pv 0) (pa_cons pe_str (pa_cons (pv 3) pa_nil))))) (pss_cons (ps_if (pt_cmpR op_eq (pv 3) pe_str (nomark _)) (pss_one (ps_expr (pe_app (pv 4) (pe_callTy call_strI (by rfl) zstr boot_str (pa_cons (pe_ix ix_tupH (pv 1) pe_int (fun _ _ => rfl)) pa_nil))))) pss_nil) (pss_cons (ps_for PassesOwn.never rfl (pi_range2 (by rfl) zrange (pa_cons pe_int (pa_cons (pe_callB call_len_seq (by rfl) zlen PySem.boot_len (pa_cons (pv 1) pa_nil)) pa_nil))) (pg_name (i := 5) sc.nd rfl (Or.inl rfl)) (pss_cons (ps_set (i := 6) sc.nd rfl (by first | exact Or.inl rfl | exact Or.inr rfl) (pe_ix ix_tupH (pv 1) (pv 5) (fun _ _ => rfl))) (pss_one (ps_if (pt_val (pe_callB call_isiV (by rfl) zisinstance boot_isinstance (pa_cons (pv 6) (pa_cons (pe_bltn (v := .ty "tuple") (by rfl) ztuple boot_tuple rfl) pa_nil)))) (pss_one (ps_set (i := 4) sc.nd rfl (by first | exact Or.inl rfl | exact Or.inr rfl) (pe_op op_cat (pv 4) (pe_comp0 (own := ["n"]) rfl (pi_tup (pv 6)) (by decide) (by decide) rfl (by decide) (fun _ _ _ _ => (pg_name (i := 0) (show (["n"] : List Str).Nodup by decide +kernel) rfl (Or.inl rfl))) (fun _ _ _ _ => (pe_callTy call_strI (by rfl) zstr boot_str (pa_cons (pv 0) pa_nil))))))) (pss_one (ps_if (pt_val (pe_callB call_isiV (by rfl) zisinstance boot_isinstance (pa_cons (pv 6) (pa_cons (pe_bltn (v := .ty "str") (by rfl) zstr boot_str rfl) pa_nil)))) (pss_one (ps_expr (pe_app (pv 4) (pv 6)))) (pss_one (ps_if (pt_cmpR op_ne (pv 3) pe_str (nomark _)) (pss_one (ps_expr (pe_app (pv 4) (pe_cal clawpart hr (by rfl) pass0 (pa_cons (pv 1) (pa_cons (pv 5) (pa_cons (pv 2) pa_nil))))))) pss_nil)))))))) (pss_one (ps_ret (pe_bm PySem.F.plainAttrs_str PySem.F.slot_str_join PySem.F.type_str_join mt_joinW pe_str (pa_cons (pv 4) pa_nil)))))))), ?_⟩
  simp only [L2.start, List.length_cons, List.length_nil, List.replicate, List.cons_append, List.nil_append, Nat.reduceSub, Nat.reduceAdd, List.map_cons, List.map_nil]
  have hd : (stV d ra)[0]? = some (.str (kindS d.kd)) := step_head ok.1 ..
  refine seq_with (fun σ H1 => σ = [some (.str name), some (.ref a), some (.ref na), some (.str (kindS d.kd)), none, none, none] ∧ H1 = H) ?_ (fun R hR => ?_)
  rotate_left
  · wp_walk using tSeq, tyS, inV, eqV
    exact ⟨_, ha, _, atI_nat hd, hR _ _ ⟨rfl, rfl⟩⟩
  rintro σ0 H0 ⟨rfl, rfl⟩
  refine seq_with (fun σ H1 => ∃ l, σ = [some (.str name), some (.ref a), some (.ref na), some (.str (kindS d.kd)), some (.ref l), none, none] ∧ H0 l = none ∧ Same H0 H1 ∧ H1 l = some (.lst (([name, "=", kindS d.kd] : List Str).map V.str))) ?_ (fun R hR => ?_)
  rotate_left
  · wp_walk using tSeq, tyS, inV, eqV
    exact ⟨small (by decide), fun p hp => hR _ _ ⟨p, rfl, hp, same_new hp _, upd_same⟩⟩
  rintro σ1 H1 ⟨l, rfl, hl0, s1, hl⟩
  refine seq_with (fun σ H1 => σ = [some (.str name), some (.ref a), some (.ref na), some (.str (kindS d.kd)), some (.ref l), none, none] ∧ Same H0 H1 ∧ H1 l = some (.lst ((([name, "=", kindS d.kd] : List Str) ++ preL d).map V.str))) ?_ (fun R hR => ?_)
  rotate_left
  · wp_walk using tSeq, tyS, inV, eqV
    by_cases c : d.kd = 2
    · have ek : kindS d.kd = "count" := by rw [c]; rfl
      have e2 : (stV d ra)[2]? = some (.int (smF d.c 0)) := by rcases d with ⟨kd, c0, u0, u1, u2⟩; cases (show kd = 2 from c); rfl
      rw [if_pos ek]
      refine ⟨⟨_, hl⟩, _, s1 _ _ ha, _, atI_nat e2, _, rfl, log_20 (sm_le _ _), _, hl, small1000 (by simp), hR _ _ ⟨rfl, fun b' o' e' => ?_, ?_⟩⟩
      · rw [upd_ne (fun z => by rw [z, hl0] at e'; cases e')]; exact s1 _ _ e'
      · rw [upd_same]; unfold preL; rw [if_pos c]; rfl
    · rw [if_neg (fun z => c (kind_two ok.1 z))]
      exact hR _ _ ⟨rfl, s1, by unfold preL; rw [if_neg c, List.append_nil]; exact hl⟩
  rintro σ2 H2 ⟨rfl, s2, h2⟩
  refine seq_with (fun σ H3 => ∃ l y5 y6, σ = [some (.str name), some (.ref a), some (.ref na), some (.str (kindS d.kd)), some (.ref l), y5, y6] ∧ Same H0 H3 ∧ H3 l = some (.lst ((([name, "=", kindS d.kd] : List Str) ++ wordsF d nm).map V.str))) ?_ (fun R hR => ?_)
  rotate_left
  · wp_walk using tSeq, tyS, inV, eqV
    have ln := law_n (nm := nm) (ra := ra) ok.1
    have sl := step_len (i := d.kd) ok.1 ra (wordF d.c) (bigF d.c) (smF d.c 0) (smF d.c 1) (smF d.c 2) (smF d.c 3) d.u0 d.u1 d.u2
    have sl : (stV d ra).length ≤ 6 := sl
    refine ⟨_, .inr (.of (s2 _ _ ha)), by omega, by omega, ?_⟩
    refine LoopR.mk (fun i σ H3 => ∃ l y5 y6, σ = [some (.str name), some (.ref a), some (.ref na), some (.str (kindS d.kd)), some (.ref l), y5, y6] ∧ H0 l = none ∧ Same H0 H3 ∧ H3 l = some (.lst ((([name, "=", kindS d.kd] : List Str) ++ preL d ++ ((lawL d nm).take i).flatten).map V.str))) ⟨l, _, _, rfl, hl0, s2, by rw [h2]; simp⟩ (fun i σ H3 hi h => ?_) (fun σ H3 h => ?_)
    · obtain ⟨l, y5, y6, rfl, l0, s3, h3⟩ := h
      have hra3 := s3 _ _ hra
      obtain ⟨x, ws, e1, e2, lw⟩ := law_at (H := H3) (nm := nm) ok hra3 i (by omega)
      have few := lflat_few ok no hra3 i
      have pl : (preL d).length ≤ 1 := by unfold preL; split <;> simp
      have same : ∀ {G : Hp}, Same H0 G → ∀ o, Same H0 (upd G l o) := fun {G} sg o b u e => by rw [upd_ne (fun z => by rw [z, l0] at e; cases e)]; exact sg _ _ e
      rw [show (1 : Int) + (i : Int) = ((i + 1 : Nat) : Int) by omega]
      wp_walk using tSeq, inV, eqV
      refine ⟨_, s3 _ _ ha, _, atI_nat e1, ?_⟩
      rw [flat_snoc e2]
      rcases lw with ⟨ar, row, rfl, har, sm, rfl⟩ | ⟨t, rfl, tl, rfl⟩ | ⟨n, rfl, k2, rfl⟩ | ⟨n, rfl, k2, lp⟩
      · refine ⟨"tuple", .inr ⟨_, rfl, _, har, rfl⟩, ?_⟩
        rw [if_pos (by decide +kernel)]
        refine CompT.mk (xs := row.map V.int) (.of har) (fun j ys σ G => G = H3 ∧ ys = ((row.take j).map sI).map V.str ∧ ∃ y, σ = [y]) ⟨rfl, rfl, _, rfl⟩ (fun j ys σ G _ h => by rw [h.1]; exact .of har) (fun j x ys σ G e h => ?_) (fun ys σ G h p2 hp2 => ?_)
        · obtain ⟨rfl, rfl, y, rfl⟩ := h
          obtain ⟨n, hn2, rfl⟩ := getmap e
          have b := sm.2 n (List.mem_of_getElem? hn2)
          refine ⟨by rw [List.length_map, List.length_map, List.length_take]; have := sm.1; exact small1000 (by omega), ?_⟩
          wp_walk using tSeq, tyS, inV, eqV
          exact ⟨log_20 (by omega), by rw [List.take_add_one, hn2, List.map_append, List.map_append]; rfl, _, rfl⟩
        · obtain ⟨rfl, rfl, y, rfl⟩ := h
          rw [len_map, List.take_length]
          have sr := sm.1
          have s4 := s3.trans (same_new hp2 (HO.lst ((row.map sI).map V.str)))
          refine ⟨p2, rfl, _, same_new hp2 _ _ _ h3, _, upd_same, by simp only [List.length_map, List.length_append, List.length_cons, List.length_nil]; exact small (by omega), fun p hp => ⟨s4.free hp, s4.trans (same_new hp _), ?_⟩⟩
          simp only [List.map_append, List.map_cons, List.map_nil, List.append_assoc, List.cons_append, List.nil_append, List.append_nil]
      · refine ⟨"str", .inl rfl, ?_⟩
        rw [if_neg (by decide +kernel)]
        refine ⟨"str", .inl rfl, ?_⟩
        rw [if_pos (by decide +kernel)]
        refine ⟨⟨_, h3⟩, _, h3, by simp only [List.length_map, List.length_append, List.length_cons, List.length_nil]; exact small1000 (by omega), l0, same s3 _, ?_⟩
        simp only [List.map_append, List.map_cons, List.map_nil, List.append_assoc, List.cons_append, List.nil_append, List.append_nil]
      · refine ⟨"int", .inl rfl, ?_⟩
        rw [if_neg (by decide +kernel)]
        refine ⟨"int", .inl rfl, ?_⟩
        rw [if_neg (by decide +kernel), if_neg (by rw [k2]; simp; decide +kernel)]
        refine ⟨l0, s3, ?_⟩
        rw [h3]
        simp only [List.map_append, List.map_cons, List.map_nil, List.append_assoc, List.cons_append, List.nil_append, List.append_nil]
      · refine ⟨"int", .inl rfl, ?_⟩
        rw [if_neg (by decide +kernel)]
        refine ⟨"int", .inl rfl, ?_⟩
        rw [if_neg (by decide +kernel), if_pos (fun z => k2 (kind_two ok.1 z))]
        refine ⟨⟨_, h3⟩, ?_⟩
        obtain ⟨z, rfl, hz⟩ : ∃ z, ws = [z] ∧ ((((i + 1 : Nat) : Int) ∈ argsP d.kd ∧ ∃ u : Nat, n = (u : Int) ∧ nm[u]? = some z) ∨ (((i + 1 : Nat) : Int) ∉ argsP d.kd ∧ n.natAbs < 10 ^ 20 ∧ z = sI n)) := by
          rcases lp with ⟨m, u, x, e3, hx, rfl⟩ | ⟨m, b, rfl⟩
          · exact ⟨x, rfl, .inl ⟨m, u, e3, hx⟩⟩
          · exact ⟨_, rfl, .inr ⟨m, b, rfl⟩⟩
        refine ⟨a, na, d.kd, i + 1, _, nm, n, z, rfl, ok.1, s3 _ _ ha, hd, e1, hn.same s3, hz, fun G sG => ?_⟩
        refine ⟨_, sG _ _ h3, by simp only [List.length_map, List.length_append, List.length_cons, List.length_nil]; exact small1000 (by omega), l0, same (s3.trans sG) _, ?_⟩
        simp only [List.map_append, List.map_cons, List.map_nil, List.append_assoc, List.cons_append, List.nil_append, List.append_nil]
    · obtain ⟨l, y5, y6, rfl, l0, s3, h3⟩ := h
      rw [show ((((stV d ra).length : Nat) : Int) - 1).toNat = (lawL d nm).length by omega, List.take_length, List.append_assoc, law_words ok.1] at h3
      exact hR _ _ ⟨l, y5, y6, rfl, s3, h3⟩
  rintro σ3 H3 ⟨l, y5, y6, rfl, s3, h3⟩
  wp_walk using tSeq, tyS, inV, eqV
  exact ⟨_, .of h3, Nat.le_trans (tot_words (H := H0) ok no hra (by omega) (by decide +kernel) (kindS_len ok.1)) (by decide), q _ s3⟩
end
abbrev slawsteps : Stmt := top 39
def splawsteps : Sp := fun vs H Q _ => ∃ (a : Addr) (ns : List Int), vs = [.ref a] ∧ H a = some (.lst (ns.map V.int)) ∧ 1 ≤ ns.length ∧ ns.length ≤ 40 ∧ ∀ H' p ds as, Same H H' → H' p = some (.tup (as.map V.ref)) → SdsAt H' ds as → ds.length = ns.length → (∀ d ∈ ds, SdOk ns.length d) → OrdOk ds → Q (.ref p) H'
section
variable {P : Program} {w : World} {K : PySem.W.Frag} {mg : Str → Option Value} {base : Heap} {f : Addr} {fd : FuncData}
theorem sclawsteps : FnScope ["cells", "steps", "k", "cell", "ahead", "used"] ["cells"] (defScope slawsteps) := ⟨rfl, rfl, rfl, by decide +kernel, rfl, by decide +kernel, by decide +kernel⟩
theorem oklawsteps (F : Fun K "_law_steps" "_law_steps" slawsteps f fd) (clawdraw : Callee P w K mg base CX0 (3) "_law_draw" ["cell", "k", "many"] splawdraw) (clawkind : Callee P w K mg base CX0 (3) "_law_kind" ["cell", "ahead"] splawkind) (clawmade : Callee P w K mg base CX0 (3) "_law_made" ["kind", "cell", "used"] splawmade) (zrange : mg "range" = none) (zlen : mg "len" = none) (zmax : mg "max" = none) (ztuple : mg "tuple" = none) : FnOk P w K mg base CX0 (4) f fd ["cells"] (splawsteps) := by
  have sc := sclawsteps
  refine F.ok sc (fun vs H Q E h => ?_) (fun cdv A outer s H vs Q E hr h => ?_)
  · obtain ⟨a, ns, rfl, _⟩ := h; rfl
  obtain ⟨a, ns, rfl, ha, n1, n40, q⟩ := h
  refine ⟨_, (pss_cons (ps_set (i := 1) sc.nd rfl (by first | exact Or.inl rfl | exact Or.inr rfl) (pe_lst pa_nil)) (pss_cons (ps_for PassesOwn.never rfl (pi_range1 (by rfl) zrange (pa_cons (pe_callB call_len_seq (by rfl) zlen PySem.boot_len (pa_cons (pv 0) pa_nil)) pa_nil)) (pg_name (i := 2) sc.nd rfl (Or.inl rfl)) (pss_cons (ps_set (i := 3) sc.nd rfl (by first | exact Or.inl rfl | exact Or.inr rfl) (pe_op op_add (pe_ix ix_listH (pv 0) (pv 2) (fun _ _ => rfl)) (pe_op op_mul (pe_op op_mul (pv 2) (pv 2)) pe_int))) (pss_cons (ps_set (i := 4) sc.nd rfl (by first | exact Or.inl rfl | exact Or.inr rfl) (pe_callB (call_max2 rfl) (by rfl) zmax boot_max (pa_cons pe_int (pa_cons (pv 2) pa_nil)))) (pss_cons (ps_setC (own := ["j"]) (fv := ["cell", "ahead"]) (js := [3, 4]) sc.nd (i := 5) rfl (by first | exact Or.inl rfl | exact Or.inr rfl) (by first | exact Or.inl rfl | exact Or.inr rfl) rfl (pi_range1 (by rfl) zrange (pa_cons pe_int pa_nil)) rfl (by decide) rfl (by decide) (by first | exact fun _ _ h => h | exact cl_sub1 rfl | exact cl_sub2 rfl rfl | exact cl_sub3 rfl rfl rfl) (has_of (by rfl)) rfl (cap2 (by first | exact ⟨rfl, .inl rfl, .inl rfl⟩ | exact ⟨rfl, .inl rfl, .inr rfl⟩) (by first | exact ⟨rfl, .inl rfl, .inl rfl⟩ | exact ⟨rfl, .inl rfl, .inr rfl⟩)) (fun _ _ _ _ => (pg_name (i := 0) (show (["j", "cell", "ahead"] : List Str).Nodup by decide +kernel) rfl (Or.inl rfl))) (fun _ _ _ _ => (pe_cal clawdraw hr (by rfl) pass0 (pa_cons (pv 1) (pa_cons (pv 0) (pa_cons (pv 2) pa_nil)))))) (pss_one (ps_expr (pe_app (pv 1) (pe_cal clawmade hr (by rfl) pass0 (pa_cons (pe_cal clawkind hr (by rfl) pass0 (pa_cons (pv 3) (pa_cons (pv 2) pa_nil))) (pa_cons (pv 3) (pa_cons (pv 5) pa_nil))))))))))) (pss_one (ps_ret (pe_callTy call_tuple_of (by rfl) ztuple boot_tuple (pa_cons (pv 1) pa_nil)))))), ?_⟩
  simp only [L2.start, List.length_cons, List.length_nil, List.replicate, List.cons_append, List.nil_append, Nat.reduceSub, Nat.reduceAdd, List.map_cons, List.map_nil]
  refine seq_with (fun σ H1 => ∃ l, σ = [some (.ref a), some (.ref l), none, none, none, none] ∧ H l = none ∧ Same H H1 ∧ H1 l = some (.lst [])) ?_ (fun R hR => ?_)
  rotate_left
  · wp_walk using tSeq, tyS, inV, eqV
    exact ⟨small (by decide), fun p hp => hR _ _ ⟨p, rfl, hp, same_new hp _, upd_same⟩⟩
  rintro σ1 H1 ⟨l, rfl, l0, s1, h1⟩
  have same : ∀ {G : Hp}, Same H G → ∀ o, Same H (upd G l o) := fun {G} sg o b u e => by rw [upd_ne (fun z => by rw [z, l0] at e; cases e)]; exact sg _ _ e
  refine seq_with (fun σ H2 => ∃ y2 y3 y4 y5 ds as, σ = [some (.ref a), some (.ref l), y2, y3, y4, y5] ∧ Same H H2 ∧ H2 l = some (.lst (as.map V.ref)) ∧ SdsAt H2 ds as ∧ ds.length = ns.length ∧ (∀ d ∈ ds, SdOk ns.length d) ∧ OrdOk ds) ?_ (fun R hR => ?_)
  rotate_left
  · wp_walk using tSeq, tyS, inV, eqV
    refine ⟨_, .inl (.of (s1 _ _ ha)), by rw [len_map]; omega, by rw [len_map]; omega, ?_⟩
    rw [len_map, Int.toNat_natCast]
    refine LoopR.mk (fun i σ H2 => ∃ y2 y3 y4 y5 ds as, σ = [some (.ref a), some (.ref l), y2, y3, y4, y5] ∧ Same H H2 ∧ H2 l = some (.lst (as.map V.ref)) ∧ SdsAt H2 ds as ∧ ds.length = i ∧ (∀ d ∈ ds, SdOk ns.length d) ∧ OrdOk ds) ⟨_, _, _, _, [], [], rfl, s1, h1, ⟨rfl, fun i d e => by simp at e⟩, rfl, (fun d hd => nomatch hd), fun i d e => by simp at e⟩ (fun i σ H2 hi h => ?_) (fun σ H2 h => ?_)
    · obtain ⟨y2, y3, y4, y5, ds, as, rfl, s2, h2, sd, dl, dk, od⟩ := h
      simp only [gName, List.set_cons_succ, List.set_cons_zero]
      rw [Int.zero_add]
      refine seq_with (fun σ H3 => H3 = H2 ∧ ∃ c : Int, σ = [some (.ref a), some (.ref l), some (.int (i : Int)), some (.int c), y4, y5]) ?_ (fun R hR => ?_)
      rotate_left
      · wp_walk using tSeq, tyS, inV, eqV
        exact ⟨_, s2 _ _ ha, _, atI_ok (by omega), .inl ⟨by omega, by omega⟩, _, rfl, hR _ _ ⟨rfl, _, rfl⟩⟩
      rintro σ3 H3 ⟨rfl, c, rfl⟩
      refine seq_with (fun σ H4 => H4 = H3 ∧ ∃ m : Int, 1 ≤ m ∧ m ≤ ns.length ∧ ((i : Int) = 0 ∨ m ≤ (i : Int)) ∧ σ = [some (.ref a), some (.ref l), some (.int (i : Int)), some (.int c), some (.int m), y5]) ?_ (fun R hR => ?_)
      rotate_left
      · wp_walk using tSeq, tyS, inV, eqV
        exact hR _ _ ⟨rfl, _, by split <;> omega, by split <;> omega, by split <;> omega, rfl⟩
      rintro σ4 H4 ⟨rfl, m, m1, mn, mi, rfl⟩
      refine seq_with (fun σ H5 => Same H4 H5 ∧ ∃ (pu : Addr) (u0 u1 u2 : Nat), (u0 < ns.length ∧ u1 < ns.length ∧ u2 < ns.length) ∧ ((i : Int) = 0 ∨ (u0 < i ∧ u1 < i ∧ u2 < i)) ∧ H5 pu = some (.lst [.int (u0 : Int), .int (u1 : Int), .int (u2 : Int)]) ∧ σ = [some (.ref a), some (.ref l), some (.int (i : Int)), some (.int c), some (.int m), some (.ref pu)]) ?_ (fun R hR => ?_)
      rotate_left
      · wp_walk using tSeq, tyS, inV, eqV
        refine CompR.mk (fun j ys σ G => G = H4 ∧ (∃ us : List Nat, ys = us.map (fun (u : Nat) => V.int (u : Int)) ∧ us.length = j ∧ ∀ u ∈ us, u < ns.length ∧ ((i : Int) = 0 ∨ u < i)) ∧ ∃ y, σ = [y, some (.int c), some (.int m)]) ⟨rfl, ⟨[], rfl, rfl, fun u hu => nomatch hu⟩, _, rfl⟩ (fun j ys σ G hj h => ?_) (fun ys σ G h p2 hp2 => ?_)
        · obtain ⟨rfl, ⟨us, rfl, hus, hub⟩, y, rfl⟩ := h
          refine ⟨by rw [List.length_map]; exact small1000 (by omega), ?_⟩
          wp_walk using tSeq, tyS, inV, eqV, splawdraw
          have r := draw_rng c (0 + (j : Int)) (show 0 < m by omega)
          refine ⟨by omega, by omega, by omega, ⟨us ++ [(drawF c (0 + (j : Int)) m).toNat], ?_, by simp [hus], fun u hu => ?_⟩, _, rfl⟩
          · rw [List.map_append]
            show _ ++ [V.int _] = _ ++ [V.int (((drawF c (0 + (j : Int)) m).toNat : Nat) : Int)]
            rw [Int.toNat_of_nonneg r.1]
          · rcases List.mem_append.mp hu with hu | hu
            · exact hub u hu
            · cases List.mem_singleton.mp hu; exact ⟨by omega, by omega⟩
        · obtain ⟨rfl, ⟨us, rfl, hus, hub⟩, y, rfl⟩ := h
          match us, hus, hub with
          | [u0, u1, u2], _, hub => exact hR _ _ ⟨same_new hp2 _, p2, u0, u1, u2, ⟨(hub u0 (by simp)).1, (hub u1 (by simp)).1, (hub u2 (by simp)).1⟩, by have a := (hub u0 (by simp)).2; have b := (hub u1 (by simp)).2; have c := (hub u2 (by simp)).2; omega, upd_same, rfl⟩
      rintro σ5 H5 ⟨s5, pu, u0, u1, u2, ⟨b0, b1, b2⟩, bi, h5, rfl⟩
      wp_walk using tSeq, tyS, inV, eqV, splawkind, splawmade
      refine ⟨⟨_, s5 _ _ h2⟩, fun H6 kd hk hk0 s6 => ⟨kd, hk, rfl, u0, u1, u2, s6 _ _ h5, fun H7 p ra s7 h7 g7 => ?_⟩⟩
      have s47 := s5.trans (s6.trans s7)
      have l7 := s47 _ _ h2
      refine ⟨_, l7, by rw [List.length_map]; have := sd.1; exact small1000 (by omega), same (s2.trans s47) _, ?_⟩
      refine ⟨ds ++ [⟨kd, c, u0, u1, u2⟩], as ++ [p], by rw [List.map_append]; rfl, ?_, by simp [dl], fun d hd => ?_, fun z d e => ?_⟩
      · exact ((sd.same s47).snoc ⟨ra, h7, g7⟩).lst l7
      · rcases List.mem_append.mp hd with hd | hd
        · exact dk d hd
        · cases List.mem_singleton.mp hd; exact ⟨hk, b0, b1, b2⟩
      · rcases Nat.lt_or_ge z ds.length with hz | hz
        · rw [List.getElem?_append_left hz] at e
          exact od z d e
        · rw [List.getElem?_append_right hz] at e
          have z0 : z - ds.length = 0 := by
            cases h0 : z - ds.length with
            | zero => rfl
            | succ n => rw [h0] at e; cases e
          rw [z0] at e
          cases (Option.some.inj e)
          have zi : z = i := by omega
          subst zi
          rcases bi with bi | bi
          · exact .inl (hk0 bi)
          · exact .inr bi
    · exact hR _ _ h
  rintro σ2 H2 ⟨y2, y3, y4, y5, ds, as, rfl, s2, h2, sd, dl, dk, od⟩
  wp_walk using tSeq, tyS, inV, eqV
  refine ⟨_, .inl ⟨.of h2, fun p hp => q _ _ ds as (s2.trans (same_new hp _)) upd_same (sd.same (same_new hp _)) dl dk od⟩⟩
end
abbrev slawprogram : Stmt := top 40
def splawprogram : PySem.W.Frag → Sp := fun K => fun vs H Q _ => ∃ (a : Addr) (ns : List Int), vs = [.ref a] ∧ SqL K H a (ns.map V.int) ∧ ns.length ≤ 63 ∧ ∀ H' p st ou ds as (os : List Nat), Same H H' → H' p = some (.tup [.ref st, .ref ou]) → H' st = some (.tup (as.map V.ref)) → SdsAt H' ds as → 1 ≤ ds.length → ds.length ≤ 40 → (∀ d ∈ ds, SdOk ds.length d) → H' ou = some (.tup (os.map fun (o : Nat) => V.int (o : Int))) → 1 ≤ os.length → os.length ≤ 8 → (∀ o ∈ os, o < ds.length) → OrdOk ds → Q (.ref p) H'
section
variable {P : Program} {w : World} {K : PySem.W.Frag} {mg : Str → Option Value} {base : Heap} {f : Addr} {fd : FuncData}
theorem sclawprogram : FnScope ["script", "cells", "steps", "total", "outs", "j"] ["script"] (defScope slawprogram) := ⟨rfl, rfl, rfl, by decide +kernel, rfl, by decide +kernel, by decide +kernel⟩
theorem oklawprogram (F : Fun K "_law_program" "_law_program" slawprogram f fd) (clawsteps : Callee P w K mg base CX0 (4) "_law_steps" ["cells"] splawsteps) (clawdraw : Callee P w K mg base CX0 (4) "_law_draw" ["cell", "k", "many"] splawdraw) (zlen : mg "len" = none) (zsum : mg "sum" = none) (zrange : mg "range" = none) (ztuple : mg "tuple" = none) : FnOk P w K mg base CX0 (5) f fd ["script"] (splawprogram K) := by
  have sc := sclawprogram
  refine F.ok sc (fun vs H Q E h => ?_) (fun cdv A outer s H vs Q E hr h => ?_)
  · obtain ⟨a, ns, rfl, _⟩ := h; rfl
  obtain ⟨a, ns, rfl, hS, h63, q⟩ := h
  refine ⟨_, (pss_cons (ps_set (i := 1) sc.nd rfl (by first | exact Or.inl rfl | exact Or.inr rfl) (pe_slice sl_list (pv 0) po_none (po_some pe_int))) (pss_cons (ps_if (pt_cmpR op_eq (pe_callB call_len_seq (by rfl) zlen PySem.boot_len (pa_cons (pv 1) pa_nil)) pe_int (nomark _)) (pss_one (ps_set (i := 1) sc.nd rfl (by first | exact Or.inl rfl | exact Or.inr rfl) (pe_lst (pa_cons pe_int pa_nil)))) pss_nil) (pss_cons (ps_set (i := 2) sc.nd rfl (by first | exact Or.inl rfl | exact Or.inr rfl) (pe_cal clawsteps hr (by rfl) pass0 (pa_cons (pv 1) pa_nil))) (pss_cons (ps_set (i := 3) sc.nd rfl (by first | exact Or.inl rfl | exact Or.inr rfl) (pe_callB (call_sumL rfl) (by rfl) zsum boot_sum (pa_cons (pv 0) pa_nil))) (pss_cons (ps_set (i := 4) sc.nd rfl (by first | exact Or.inl rfl | exact Or.inr rfl) (pe_lst pa_nil)) (pss_cons (ps_for PassesOwn.never rfl (pi_range1 (by rfl) zrange (pa_cons (pe_op op_add pe_int (pe_cal clawdraw hr (by rfl) pass0 (pa_cons (pv 3) (pa_cons pe_int (pa_cons pe_int pa_nil))))) pa_nil)) (pg_name (i := 5) sc.nd rfl (Or.inl rfl)) (pss_one (ps_expr (pe_app (pv 4) (pe_cal clawdraw hr (by rfl) pass0 (pa_cons (pe_op op_add (pv 3) (pe_op op_mul (pv 5) (pv 5))) (pa_cons (pe_op op_add pe_int (pv 5)) (pa_cons (pe_callB call_len_seq (by rfl) zlen PySem.boot_len (pa_cons (pv 2) pa_nil)) pa_nil)))))))) (pss_one (ps_ret (pe_tup (pa_cons (pv 2) (pa_cons (pe_callTy call_tuple_of (by rfl) ztuple boot_tuple (pa_cons (pv 4) pa_nil)) pa_nil))))))))))), ?_⟩
  simp only [L2.start, List.length_cons, List.length_nil, List.replicate, List.cons_append, List.nil_append, Nat.reduceSub, Nat.reduceAdd, List.map_cons, List.map_nil]
  refine seq_with (fun σ H1 => ∃ ca, σ = [some (.ref a), some (.ref ca), none, none, none, none] ∧ Same H H1 ∧ H1 ca = some (.lst ((ns.take 40).map V.int))) ?_ (fun R hR => ?_)
  rotate_left
  · wp_walk using tSeq, tyS, inV, eqV, rSlL
    refine ⟨_, hS, fun p hp => ?_⟩
    rw [show cutV (ns.map V.int) none (some 40) = (ns.take 40).map V.int from cut_any ns 40]
    exact hR _ _ ⟨p, rfl, same_new hp _, upd_same⟩
  rintro σ1 H1 ⟨ca, rfl, s1, h1⟩
  refine seq_with (fun σ H2 => ∃ (ca : Addr) (ms : List Int), σ = [some (.ref a), some (.ref ca), none, none, none, none] ∧ Same H H2 ∧ H2 ca = some (.lst (ms.map V.int)) ∧ 1 ≤ ms.length ∧ ms.length ≤ 40) ?_ (fun R hR => ?_)
  rotate_left
  · wp_walk using tSeq, tyS, inV, eqV
    refine ⟨_, .inl (.of h1), ?_⟩
    have tl : (ns.take 40).length ≤ 40 := by rw [List.length_take]; omega
    split
    · exact ⟨small (by decide), fun p hp => hR _ _ ⟨p, [0], rfl, s1.trans (same_new hp _), upd_same, by simp, by simp⟩⟩
    · rename_i c
      rw [len_map] at c
      exact hR _ _ ⟨ca, _, rfl, s1, h1, by omega, tl⟩
  rintro σ2 H2 ⟨ca, ms, rfl, s2, h2, m1, m40⟩
  refine seq_with (fun σ H3 => ∃ (st : Addr) (ds : List Sd) (as : List Addr), σ = [some (.ref a), some (.ref ca), some (.ref st), none, none, none] ∧ Same H H3 ∧ H3 st = some (.tup (as.map V.ref)) ∧ SdsAt H3 ds as ∧ ds.length = ms.length ∧ (∀ d ∈ ds, SdOk ds.length d) ∧ OrdOk ds) ?_ (fun R hR => ?_)
  rotate_left
  · wp_walk using tSeq, tyS, inV, eqV, splawsteps
    exact ⟨ms, h2, m1, m40, fun H3 p ds as s3 h3 sd dl dk od => hR _ _ ⟨p, ds, as, rfl, s2.trans s3, h3, sd, dl, (fun d hd => by rw [dl]; exact dk d hd), od⟩⟩
  rintro σ3 H3 ⟨st, ds, as, rfl, s3, h3, sd, dl, dk, od⟩
  refine seq_with (fun σ H4 => H4 = H3 ∧ ∃ t : Int, σ = [some (.ref a), some (.ref ca), some (.ref st), some (.int t), none, none]) ?_ (fun R hR => ?_)
  rotate_left
  · wp_walk using tSeq, tyS, inV, eqV
    exact ⟨ns, s3.seq hS, hR _ _ ⟨rfl, _, rfl⟩⟩
  rintro σ4 H4 ⟨rfl, t, rfl⟩
  refine seq_with (fun σ H5 => ∃ l, σ = [some (.ref a), some (.ref ca), some (.ref st), some (.int t), some (.ref l), none] ∧ H4 l = none ∧ Same H4 H5 ∧ H5 l = some (.lst [])) ?_ (fun R hR => ?_)
  rotate_left
  · wp_walk using tSeq, tyS, inV, eqV
    exact ⟨small (by decide), fun p hp => hR _ _ ⟨p, rfl, hp, same_new hp _, upd_same⟩⟩
  rintro σ5 H5 ⟨l, rfl, l0, s5, h5⟩
  have same : ∀ {G : Hp}, Same H4 G → ∀ o, Same H4 (upd G l o) := fun {G} sg o b u e => by rw [upd_ne (fun z => by rw [z, l0] at e; cases e)]; exact sg _ _ e
  have r8 := draw_rng t 61 (show (0 : Int) < 8 by decide)
  refine seq_with (fun σ H6 => ∃ (y5 : Option V) (os : List Nat), σ = [some (.ref a), some (.ref ca), some (.ref st), some (.int t), some (.ref l), y5] ∧ Same H4 H6 ∧ H6 l = some (.lst (os.map fun (o : Nat) => V.int (o : Int))) ∧ 1 ≤ os.length ∧ os.length ≤ 8 ∧ ∀ o ∈ os, o < ds.length) ?_ (fun R hR => ?_)
  rotate_left
  · wp_walk using tSeq, tyS, inV, eqV, splawdraw
    refine ⟨by omega, by omega, ?_⟩
    generalize hz : (1 + drawF t 61 8).toNat = nz at *
    refine LoopR.mk (fun i σ H6 => ∃ (y5 : Option V) (os : List Nat), σ = [some (.ref a), some (.ref ca), some (.ref st), some (.int t), some (.ref l), y5] ∧ Same H4 H6 ∧ H6 l = some (.lst (os.map fun (o : Nat) => V.int (o : Int))) ∧ os.length = i ∧ ∀ o ∈ os, o < ds.length) ⟨_, [], rfl, s5, h5, rfl, fun o ho => nomatch ho⟩ (fun i σ H6 hi h => ?_) (fun σ H6 h => ?_)
    · obtain ⟨y5, os, rfl, s6, h6, ol, ob⟩ := h
      wp_walk using tSeq, tyS, inV, eqV, splawdraw
      have al : (as.map V.ref).length = ds.length := by rw [List.length_map, sd.1]
      have r := draw_rng (t + (0 + (i : Int)) * (0 + (i : Int))) (60 + (0 + (i : Int))) (show (0 : Int) < ((as.map V.ref).length : Int) by rw [al]; omega)
      refine ⟨⟨_, h6⟩, .inl ⟨by omega, by omega⟩, _, .inr (.of (s6 _ _ h3)), by omega, by omega, by rw [al]; omega, _, h6, by rw [List.length_map]; exact small1000 (by omega), same s6 _, os ++ [(drawF (t + (0 + (i : Int)) * (0 + (i : Int))) (60 + (0 + (i : Int))) ((as.map V.ref).length : Int)).toNat], ?_, by simp [ol], fun o ho => ?_⟩
      · rw [List.map_append, List.map_cons, List.map_nil, Int.toNat_of_nonneg r.1]
      · rcases List.mem_append.mp ho with ho | ho
        · exact ob o ho
        · cases List.mem_singleton.mp ho; rw [al] at r; rw [al]; omega
    · obtain ⟨y5, os, rfl, s6, h6, ol, ob⟩ := h
      exact hR _ _ ⟨y5, os, rfl, s6, h6, by omega, by omega, ob⟩
  rintro σ6 H6 ⟨y5, os, rfl, s6, h6, o1, o8, ob⟩
  wp_walk using tSeq, tyS, inV, eqV
  refine ⟨_, .inl ⟨.of h6, fun p hp => ⟨small (by decide), fun p1 hp1 => ?_⟩⟩⟩
  have s8 := s6.trans ((same_new hp (HO.tup (os.map fun (o : Nat) => V.int (o : Int)))).trans (same_new hp1 (HO.tup [V.ref st, V.ref p])))
  exact q _ p1 st p ds as os (s3.trans s8) upd_same (s8 _ _ h3) (sd.same s8) (by omega) (by omega) dk (same_new hp1 _ _ _ upd_same) o1 o8 ob od
end
abbrev slawplainname : Stmt := top 41
def splawplainname : Sp := fun vs H Q _ => ∃ k : Nat, vs = [.int (k : Int)] ∧ k < 40 ∧ Q (.str (plainF k)) H
section
variable {P : Program} {w : World} {K : PySem.W.Frag} {mg : Str → Option Value} {base : Heap} {f : Addr} {fd : FuncData}
theorem sclawplainname : FnScope ["k", "some"] ["k"] (defScope slawplainname) := ⟨rfl, rfl, rfl, by decide +kernel, rfl, by decide +kernel, by decide +kernel⟩
theorem oklawplainname (F : Fun K "_law_plain_name" "_law_plain_name" slawplainname f fd) : FnOk P w K mg base CX0 (1) f fd ["k"] (splawplainname) := by
  have sc := sclawplainname
  refine F.ok sc (fun vs H Q E h => ?_) (fun cdv A outer s H vs Q E hr h => ?_)
  · obtain ⟨k, rfl, _⟩ := h; rfl
  obtain ⟨k, rfl, k40, q⟩ := h
  refine ⟨_, (pss_cons (ps_set (i := 1) sc.nd rfl (by first | exact Or.inl rfl | exact Or.inr rfl) pe_str) (pss_cons (ps_if (pt_cmpR op_lt (pv 0) pe_int (nomark _)) (pss_one (ps_ret (pe_item_str (pv 1) (pv 0) (fun _ _ => rfl)))) pss_nil) (pss_one (ps_ret (pe_op op_add_str (pe_item_str (pv 1) (pe_op op_sub (pe_op op_fdiv (pv 0) pe_int) pe_int) (fun _ _ => rfl)) (pe_item_str (pv 1) (pe_op op_mod (pv 0) pe_int) (fun _ _ => rfl))))))), ?_⟩
  wp_walk using tSeq, tyS, inV, eqV
  unfold plainF at q
  by_cases c : k < 26
  · rw [if_pos (by omega)]
    rw [if_pos c] at q
    exact ⟨by omega, by omega, by rw [abc_len]; omega, _, abc_k c, q⟩
  · rw [if_neg (by omega)]
    rw [if_neg c] at q
    have e1 : ((k : Int) / 26 - 1).toNat = k / 26 - 1 := by omega
    have e2 : ((k : Int) % 26).toNat = k % 26 := by omega
    refine ⟨by omega, by omega, by rw [abc_len]; omega, 97 + (k / 26 - 1), by rw [e1]; exact abc_k (by omega), by omega, by omega, by rw [abc_len]; omega, 97 + k % 26, by rw [e2]; exact abc_k (by omega), ?_⟩
    exact ⟨small (show 2 ≤ 1000 by decide), q⟩
end
abbrev slawnames : Stmt := top 42
def splawnames : Sp := fun vs H Q _ => ∃ (c : Int) (n : Nat), vs = [.int c, .int (n : Int)] ∧ n ≤ 40 ∧ ∀ H' p nm, Same H H' → H' p = some (.tup (nm.map V.str)) → nm.length = n → nmGood nm → Q (.ref p) H'
@[irreducible] def wplawnames : List (Str × Pos) := [("out", ⟨206, 13, 206, 18⟩), ("in", ⟨206, 20, 206, 24⟩), ("num", ⟨206, 26, 206, 31⟩), ("count", ⟨206, 33, 206, 40⟩), ("each", ⟨206, 42, 206, 48⟩), ("pair", ⟨206, 50, 206, 56⟩), ("pick", ⟨206, 58, 206, 64⟩), ("turn", ⟨206, 66, 206, 72⟩), ("flip", ⟨206, 74, 206, 80⟩), ("cut", ⟨206, 82, 206, 87⟩), ("spread", ⟨206, 89, 206, 97⟩), ("lay", ⟨206, 99, 206, 104⟩)]
theorem bwlawnames : defBody slawnames = [(defBody slawnames).getD 0 (.Pass ⟨0, 0, 0, 0⟩), (defBody slawnames).getD 1 (.Pass ⟨0, 0, 0, 0⟩), (defBody slawnames).getD 2 (.Pass ⟨0, 0, 0, 0⟩), (defBody slawnames).getD 3 (.Pass ⟨0, 0, 0, 0⟩), (defBody slawnames).getD 4 (.Pass ⟨0, 0, 0, 0⟩), .Assign [.Name "kinds" ⟨206, 4, 206, 9⟩] (.List (strsC wplawnames) ⟨206, 12, 206, 105⟩) ⟨206, 4, 206, 105⟩, (defBody slawnames).getD 6 (.Pass ⟨0, 0, 0, 0⟩), (defBody slawnames).getD 7 (.Pass ⟨0, 0, 0, 0⟩), (defBody slawnames).getD 8 (.Pass ⟨0, 0, 0, 0⟩), (defBody slawnames).getD 9 (.Pass ⟨0, 0, 0, 0⟩)] := by kernel_rfl
theorem wvlawnames : (wplawnames.map (·.1)).map V.str = [V.str "out", V.str "in", V.str "num", V.str "count", V.str "each", V.str "pair", V.str "pick", V.str "turn", V.str "flip", V.str "cut", V.str "spread", V.str "lay"] := by unfold wplawnames; rfl
section
variable {P : Program} {w : World} {K : PySem.W.Frag} {mg : Str → Option Value} {base : Heap} {f : Addr} {fd : FuncData}
theorem sclawnames : FnScope ["cell", "many", "some", "way", "fill", "spot", "step", "kinds", "names", "k", "name"] ["cell", "many"] (defScope slawnames) := ⟨rfl, rfl, rfl, by decide +kernel, rfl, by decide +kernel, by decide +kernel⟩
theorem oklawnames (F : Fun K "_law_names" "_law_names" slawnames f fd) (clawdraw : Callee P w K mg base CX0 (1) "_law_draw" ["cell", "k", "many"] splawdraw) (clawplainname : Callee P w K mg base CX0 (1) "_law_plain_name" ["k"] splawplainname) (zrange : mg "range" = none) (ztuple : mg "tuple" = none) : FnOk P w K mg base CX0 (2) f fd ["cell", "many"] (splawnames) := by
  have sc := sclawnames
  refine F.ok sc (fun vs H Q E h => ?_) (fun cdv A outer s H vs Q E hr h => ?_)
  · obtain ⟨c, n, rfl, _⟩ := h; rfl
  obtain ⟨c, n, rfl, n40, q⟩ := h
  rw [bwlawnames]
  refine ⟨_, (pss_cons (ps_set (i := 2) sc.nd rfl (by first | exact Or.inl rfl | exact Or.inr rfl) pe_str) (pss_cons (ps_set (i := 3) sc.nd rfl (by first | exact Or.inl rfl | exact Or.inr rfl) (pe_cal clawdraw hr (by rfl) pass0 (pa_cons (pv 0) (pa_cons pe_int (pa_cons pe_int pa_nil))))) (pss_cons (ps_set (i := 4) sc.nd rfl (by first | exact Or.inl rfl | exact Or.inr rfl) (pe_item_str (pv 2) (pe_cal clawdraw hr (by rfl) pass0 (pa_cons (pv 0) (pa_cons pe_int (pa_cons pe_int pa_nil)))) (fun _ _ => rfl))) (pss_cons (ps_set (i := 5) sc.nd rfl (by first | exact Or.inl rfl | exact Or.inr rfl) (pe_cal clawdraw hr (by rfl) pass0 (pa_cons (pv 0) (pa_cons pe_int (pa_cons pe_int pa_nil))))) (pss_cons (ps_set (i := 6) sc.nd rfl (by first | exact Or.inl rfl | exact Or.inr rfl) (pe_cal clawdraw hr (by rfl) pass0 (pa_cons (pv 0) (pa_cons pe_int (pa_cons pe_int pa_nil))))) (pss_cons (ps_set (i := 7) sc.nd rfl (by first | exact Or.inl rfl | exact Or.inr rfl) (pe_lst (pa_strs wplawnames))) (pss_cons (ps_set (i := 7) sc.nd rfl (by first | exact Or.inl rfl | exact Or.inr rfl) (pe_op op_cat (pv 7) (pe_lst (pa_str (pa_str (pa_str (pa_str (pa_str (pa_str (pa_str pa_nil)))))))))) (pss_cons (ps_set (i := 8) sc.nd rfl (by first | exact Or.inl rfl | exact Or.inr rfl) (pe_lst pa_nil)) (pss_cons (ps_for PassesOwn.never rfl (pi_range1 (by rfl) zrange (pa_cons (pv 1) pa_nil)) (pg_name (i := 9) sc.nd rfl (Or.inl rfl)) (pss_cons (ps_set (i := 10) sc.nd rfl (by first | exact Or.inl rfl | exact Or.inr rfl) (pe_cal clawplainname hr (by rfl) pass0 (pa_cons (pv 9) pa_nil))) (pss_cons (ps_if (pt_cmpR op_eq (pv 3) pe_int (nomark _)) (pss_one (ps_set (i := 10) sc.nd rfl (by first | exact Or.inl rfl | exact Or.inr rfl) (pe_op op_add_str (pe_op op_mulStrC (pv 4) (pe_op op_mod (pv 9) pe_int)) (pe_item_str (pv 2) (pe_op op_mod (pe_op op_add (pv 6) (pe_op op_fdiv (pv 9) pe_int)) pe_int) (fun _ _ => rfl))))) pss_nil) (pss_cons (ps_if (pw_or (pt_cmpR op_eq (pv 3) pe_int (nomark _)) (pw_or1 (pt_cmpR op_eq (pv 3) pe_int (nomark _)))).pt (pss_cons (ps_set (i := 10) sc.nd rfl (by first | exact Or.inl rfl | exact Or.inr rfl) (pe_op op_add_str (pe_item_str (pv 2) (pe_op op_mod (pe_op op_add (pv 6) (pv 9)) pe_int) (fun _ _ => rfl)) (pe_item_str (pv 2) (pe_op op_fdiv (pv 9) pe_int) (fun _ _ => rfl)))) (pss_one (ps_set (i := 10) sc.nd rfl (by first | exact Or.inl rfl | exact Or.inr rfl) (pe_op op_add_str (pe_op op_add_str (pe_op op_mulStrC (pv 4) (pv 5)) (pv 10)) (pe_op op_mulStrC (pv 4) (pe_op op_sub pe_int (pv 5))))))) pss_nil) (pss_cons (ps_if (pw_and (pt_cmpR op_eq (pv 3) pe_int (nomark _)) (pw_and1 (pt_cmpR op_lt (pv 9) pe_int (nomark _)))).pt (pss_one (ps_set (i := 10) sc.nd rfl (by first | exact Or.inl rfl | exact Or.inr rfl) (pe_ix ix_listH (pv 7) (pe_op op_mod (pe_op op_add (pv 9) (pv 6)) pe_int) (fun _ _ => rfl)))) pss_nil) (pss_one (ps_expr (pe_app (pv 8) (pv 10))))))))) (pss_one (ps_ret (pe_callTy call_tuple_of (by rfl) ztuple boot_tuple (pa_cons (pv 8) pa_nil))))))))))))), ?_⟩
  simp only [L2.start, List.length_cons, List.length_nil, List.replicate, List.cons_append, List.nil_append, Nat.reduceSub, Nat.reduceAdd, List.map_cons, List.map_nil]
  refine seq_with (fun σ H1 => H1 = H ∧ σ = [some (.int c), some (.int (n : Int)), some (.str ABC), none, none, none, none, none, none, none, none]) ?_ (fun R hR => ?_)
  rotate_left
  · wp_walk using tSeq, tyS, inV, eqV
    exact hR _ _ ⟨rfl, rfl⟩
  rintro σ1 H1 ⟨rfl, rfl⟩
  have two (f : Nat) : strL [97 + f] = ⟨#[97 + f]⟩ := rfl
  refine seq_with (fun σ H2 => H2 = H1 ∧ ∃ way : Nat, σ = [some (.int c), some (.int (n : Int)), some (.str ABC), some (.int (way : Int)), none, none, none, none, none, none, none]) ?_ (fun R hR => ?_)
  rotate_left
  · wp_walk using tSeq, tyS, inV, eqV, splawdraw
    have r := draw_rng c 70 (show (0 : Int) < 4 by decide)
    exact hR _ _ ⟨rfl, (drawF c 70 4).toNat, by rw [Int.toNat_of_nonneg r.1]⟩
  rintro σ2 H2 ⟨rfl, way, rfl⟩
  refine seq_with (fun σ H3 => H3 = H2 ∧ ∃ fl : Nat, fl < 26 ∧ σ = [some (.int c), some (.int (n : Int)), some (.str ABC), some (.int (way : Int)), some (.str (strL [97 + fl])), none, none, none, none, none, none]) ?_ (fun R hR => ?_)
  rotate_left
  · wp_walk using tSeq, tyS, inV, eqV, splawdraw
    have r := draw_rng c 71 (show (0 : Int) < 26 by decide)
    exact ⟨r.1, by omega, by rw [abc_len]; omega, _, abc_i r.1 r.2, hR _ _ ⟨rfl, (drawF c 71 26).toNat, by omega, rfl⟩⟩
  rintro σ3 H3 ⟨rfl, fl, fl1, rfl⟩
  refine seq_with (fun σ H4 => H4 = H3 ∧ ∃ sp : Nat, sp < 7 ∧ σ = [some (.int c), some (.int (n : Int)), some (.str ABC), some (.int (way : Int)), some (.str (strL [97 + fl])), some (.int (sp : Int)), none, none, none, none, none]) ?_ (fun R hR => ?_)
  rotate_left
  · wp_walk using tSeq, tyS, inV, eqV, splawdraw
    have r := draw_rng c 72 (show (0 : Int) < 7 by decide)
    exact hR _ _ ⟨rfl, (drawF c 72 7).toNat, by omega, by rw [Int.toNat_of_nonneg r.1]⟩
  rintro σ4 H4 ⟨rfl, sp, sp7, rfl⟩
  refine seq_with (fun σ H5 => H5 = H4 ∧ ∃ st : Nat, st < 26 ∧ σ = [some (.int c), some (.int (n : Int)), some (.str ABC), some (.int (way : Int)), some (.str (strL [97 + fl])), some (.int (sp : Int)), some (.int (st : Int)), none, none, none, none]) ?_ (fun R hR => ?_)
  rotate_left
  · wp_walk using tSeq, tyS, inV, eqV, splawdraw
    have r := draw_rng c 73 (show (0 : Int) < 26 by decide)
    exact hR _ _ ⟨rfl, (drawF c 73 26).toNat, by omega, by rw [Int.toNat_of_nonneg r.1]⟩
  rintro σ5 H5 ⟨rfl, st, st26, rfl⟩
  refine seq_with (fun σ H6 => ∃ pk, σ = [some (.int c), some (.int (n : Int)), some (.str ABC), some (.int (way : Int)), some (.str (strL [97 + fl])), some (.int (sp : Int)), some (.int (st : Int)), some (.ref pk), none, none, none] ∧ Same H5 H6 ∧ H6 pk = some (.lst ((wplawnames.map (·.1)).map V.str))) ?_ (fun R hR => ?_)
  rotate_left
  · wp_walk using tSeq, tyS, inV, eqV, tStrs
    exact ⟨by rw [wvlawnames]; exact small (by decide), fun p hp => hR _ _ ⟨p, rfl, same_new hp _, upd_same⟩⟩
  rintro σ6 H6 ⟨pk, rfl, s6, h6⟩
  rw [wvlawnames] at h6
  refine seq_with (fun σ H7 => ∃ pk, σ = [some (.int c), some (.int (n : Int)), some (.str ABC), some (.int (way : Int)), some (.str (strL [97 + fl])), some (.int (sp : Int)), some (.int (st : Int)), some (.ref pk), none, none, none] ∧ Same H5 H7 ∧ H7 pk = some (.lst (k19.map V.str))) ?_ (fun R hR => ?_)
  rotate_left
  · wp_walk using tSeq, tyS, inV, eqV
    exact ⟨small (by decide), fun p hp => ⟨_, same_new hp _ _ _ h6, small (by decide), fun p1 hp1 => hR _ _ ⟨p1, rfl, s6.trans ((same_new hp _).trans (same_new hp1 _)), upd_same⟩⟩⟩
  clear h6 s6
  rintro σ7 H7 ⟨pk, rfl, s7, h7⟩
  refine seq_with (fun σ H8 => ∃ l, σ = [some (.int c), some (.int (n : Int)), some (.str ABC), some (.int (way : Int)), some (.str (strL [97 + fl])), some (.int (sp : Int)), some (.int (st : Int)), some (.ref pk), some (.ref l), none, none] ∧ H7 l = none ∧ Same H7 H8 ∧ H8 l = some (.lst [])) ?_ (fun R hR => ?_)
  rotate_left
  · wp_walk using tSeq, tyS, inV, eqV
    exact ⟨small (by decide), fun p hp => hR _ _ ⟨p, rfl, hp, same_new hp _, upd_same⟩⟩
  rintro σ8 H8 ⟨l, rfl, l0, s8, h8⟩
  have same : ∀ {G : Hp}, Same H7 G → ∀ o, Same H7 (upd G l o) := fun {G} sg o b u e => by rw [upd_ne (fun z => by rw [z, l0] at e; cases e)]; exact sg _ _ e
  have mid26 : ∀ {m : Int} (f : Nat), 0 ≤ m → m < 26 → f = m.toNat → ABC.cps[m.toNat]? = some (97 + f) := fun f h0 h1 e => by rw [e]; exact abc_i h0 h1
  refine seq_with (fun σ H9 => ∃ (y9 y10 : Option V), σ = [some (.int c), some (.int (n : Int)), some (.str ABC), some (.int (way : Int)), some (.str (strL [97 + fl])), some (.int (sp : Int)), some (.int (st : Int)), some (.ref pk), some (.ref l), y9, y10] ∧ Same H7 H9 ∧ H9 l = some (.lst ((namesF way fl sp st n).map V.str))) ?_ (fun R hR => ?_)
  rotate_left
  · wp_walk using tSeq, tyS, inV, eqV
    refine ⟨by omega, by omega, ?_⟩
    rw [Int.toNat_natCast]
    refine LoopR.mk (fun i σ H9 => ∃ (y9 y10 : Option V), σ = [some (.int c), some (.int (n : Int)), some (.str ABC), some (.int (way : Int)), some (.str (strL [97 + fl])), some (.int (sp : Int)), some (.int (st : Int)), some (.ref pk), some (.ref l), y9, y10] ∧ Same H7 H9 ∧ H9 l = some (.lst ((namesF way fl sp st i).map V.str))) ⟨_, _, rfl, s8, h8⟩ (fun i σ H9 hi h => ?_) (fun σ H9 h => ?_)
    · obtain ⟨y9, y10, rfl, s9, h9⟩ := h
      rw [Int.zero_add]
      simp only [gName, List.set_cons_succ, List.set_cons_zero]
      refine seq_with (fun σ G => G = H9 ∧ σ = [some (.int c), some (.int (n : Int)), some (.str ABC), some (.int (way : Int)), some (.str (strL [97 + fl])), some (.int (sp : Int)), some (.int (st : Int)), some (.ref pk), some (.ref l), some (.int (i : Int)), some (.str (strL (plainF i).cps.toList))]) ?_ (fun R hR => ?_)
      rotate_left
      · wp_walk using tSeq, tyS, inV, eqV, splawplainname
        exact ⟨i, rfl, by omega, hR _ _ ⟨rfl, by rw [← strL_of rfl]⟩⟩
      rintro σA G ⟨rfl, rfl⟩
      refine seq_with (fun σ G' => G' = G ∧ σ = [some (.int c), some (.int (n : Int)), some (.str ABC), some (.int (way : Int)), some (.str (strL [97 + fl])), some (.int (sp : Int)), some (.int (st : Int)), some (.ref pk), some (.ref l), some (.int (i : Int)), some (.str (strL (nA way fl st i)))]) ?_ (fun R hR => ?_)
      rotate_left
      · wp_walk using tSeq, tyS, inV, eqV, splawplainname
        unfold nA at hR
        split
        · rename_i c1
          rw [if_pos (by omega)] at hR
          refine ⟨[97 + fl], rfl, by omega, by omega, by simp, ?_⟩
          refine ⟨by omega, by omega, by rw [abc_len]; omega, 97 + (st + i / 8) % 26, mid26 _ (by omega) (by omega) (by omega), by rw [len_rep1]; show _ + 1 ≤ sizeLine; exact small (by omega), hR _ _ ⟨rfl, ?_⟩⟩
          rw [show (⟨#[97 + (st + i / 8) % 26]⟩ : Str) = strL [97 + (st + i / 8) % 26] from rfl, app_strL, show ((i : Int) % 8).toNat = i % 8 by omega, rep_one]
        · rename_i c1
          rw [if_neg (by omega)] at hR
          exact hR _ _ ⟨rfl, rfl⟩
      rintro σB G ⟨rfl, rfl⟩
      refine seq_with (fun σ G' => G' = G ∧ σ = [some (.int c), some (.int (n : Int)), some (.str ABC), some (.int (way : Int)), some (.str (strL [97 + fl])), some (.int (sp : Int)), some (.int (st : Int)), some (.ref pk), some (.ref l), some (.int (i : Int)), some (.str (strL (nB way fl sp st i)))]) ?_ (fun R hR => ?_)
      rotate_left
      · wp_walk using tSeq, tyS, inV, eqV, splawplainname
        have go : R [some (.int c), some (.int (n : Int)), some (.str ABC), some (.int (way : Int)), some (.str (strL [97 + fl])), some (.int (sp : Int)), some (.int (st : Int)), some (.ref pk), some (.ref l), some (.int (i : Int)), some (.str (strL (nB way fl sp st i)))] G := hR _ _ ⟨rfl, rfl⟩
        have i40 : i < 40 := by omega
        have put : ∀ a b : List Nat, a = List.replicate sp (97 + fl) → b = List.replicate (6 - sp) (97 + fl) → (way = 2 ∨ way = 3) → strL a ++ ((⟨#[97 + (st + i) % 26]⟩ : Str) ++ ⟨#[97 + i / 26]⟩) ++ strL b = strL (nB way fl sp st i) := fun a b ea eb hw => by
          subst ea eb
          unfold nB
          rw [if_pos hw, show (⟨#[97 + (st + i) % 26]⟩ : Str) ++ ⟨#[97 + i / 26]⟩ = strL [97 + (st + i) % 26, 97 + i / 26] from app_strL [_] [_], app_strL, app_strL]
        have l1 : (strL (List.replicate ((sp : Int)).toNat [97 + fl]).flatten).length = sp := by rw [len_rep1]; omega
        have l2 : (strL (List.replicate (6 - (sp : Int)).toNat [97 + fl]).flatten).length = 6 - sp := by rw [len_rep1]; omega
        have arm : (way = 2 ∨ way = 3) → ∀ S : Str → L2.St, R (S (strL (nB way fl sp st i))) G → 0 ≤ ((st : Int) + (i : Int)) % 26 ∧ ((st : Int) + (i : Int)) % 26 < 9223372036854775808 ∧ ((st : Int) + (i : Int)) % 26 < ↑ABC.length ∧ ∃ x, ABC.cps[(((st : Int) + (i : Int)) % 26).toNat]? = some x ∧ 0 ≤ (i : Int) / 26 ∧ (i : Int) / 26 < 9223372036854775808 ∧ (i : Int) / 26 < ↑ABC.length ∧ ∃ x_1, ABC.cps[((i : Int) / 26).toNat]? = some x_1 ∧
            (⟨#[x]⟩ : Str).length + (⟨#[x_1]⟩ : Str).length ≤ sizeLine ∧ ∃ a, strL [97 + fl] = strL a ∧ 0 ≤ (sp : Int) ∧ (sp : Int) ≤ 100 ∧ a.length ≤ 10 ∧ (strL (List.replicate ((sp : Int)).toNat a).flatten).length + ((⟨#[x]⟩ : Str) ++ ⟨#[x_1]⟩).length ≤ sizeLine ∧ ∃ a_1, strL [97 + fl] = strL a_1 ∧ 0 ≤ 6 - (sp : Int) ∧ 6 - (sp : Int) ≤ 100 ∧ a_1.length ≤ 10 ∧
              (strL (List.replicate ((sp : Int)).toNat a).flatten ++ ((⟨#[x]⟩ : Str) ++ ⟨#[x_1]⟩)).length + (strL (List.replicate (6 - (sp : Int)).toNat a_1).flatten).length ≤ sizeLine ∧ R (S (strL (List.replicate ((sp : Int)).toNat a).flatten ++ ((⟨#[x]⟩ : Str) ++ ⟨#[x_1]⟩) ++ strL (List.replicate (6 - (sp : Int)).toNat a_1).flatten)) G := fun hw S go => by
          refine ⟨by omega, by omega, by rw [abc_len]; omega, 97 + (st + i) % 26, mid26 _ (by omega) (by omega) (by omega), by omega, by omega, by rw [abc_len]; omega, 97 + i / 26, mid26 _ (by omega) (by omega) (by omega), small (show 2 ≤ 1000 by decide), [97 + fl], rfl, by omega, by omega, by simp, by rw [l1, two_len]; exact small (by omega), [97 + fl], rfl, by omega, by omega, by simp, by rw [strLen_append, l1, l2, two_len]; exact small (by omega), ?_⟩
          rw [put _ _ (by rw [rep_one, Int.toNat_natCast]) (by rw [rep_one]; congr 1; omega) hw]
          exact go
        split
        · exact arm (.inl (by omega)) (fun z => [some (.int c), some (.int (n : Int)), some (.str ABC), some (.int (way : Int)), some (.str (strL [97 + fl])), some (.int (sp : Int)), some (.int (st : Int)), some (.ref pk), some (.ref l), some (.int (i : Int)), some (.str z)]) go
        · split
          · exact arm (.inr (by omega)) (fun z => [some (.int c), some (.int (n : Int)), some (.str ABC), some (.int (way : Int)), some (.str (strL [97 + fl])), some (.int (sp : Int)), some (.int (st : Int)), some (.ref pk), some (.ref l), some (.int (i : Int)), some (.str z)]) go
          · have e : nB way fl sp st i = nA way fl st i := by unfold nB; rw [if_neg (by omega)]
            rw [e] at go
            exact go
      rintro σC G ⟨rfl, rfl⟩
      refine seq_with (fun σ G' => G' = G ∧ σ = [some (.int c), some (.int (n : Int)), some (.str ABC), some (.int (way : Int)), some (.str (strL [97 + fl])), some (.int (sp : Int)), some (.int (st : Int)), some (.ref pk), some (.ref l), some (.int (i : Int)), some (.str (strL (nameF way fl sp st i)))]) ?_ (fun R hR => ?_)
      rotate_left
      · wp_walk using tSeq, tyS, inV, eqV, splawplainname
        have fin : ∀ x : Str, x.cps.toList = nameF way fl sp st i → R [some (.int c), some (.int (n : Int)), some (.str ABC), some (.int (way : Int)), some (.str (strL [97 + fl])), some (.int (sp : Int)), some (.int (st : Int)), some (.ref pk), some (.ref l), some (.int (i : Int)), some (.str x)] G := fun x e => hR _ _ ⟨rfl, by rw [strL_of e]⟩
        unfold nameF at fin
        have nb : ¬ (way = 3 ∧ i < 19) → nB way fl sp st i = (if way = 1 then List.replicate (i % 8) (97 + fl) ++ [97 + (st + i / 8) % 26] else if way = 3 ∧ i < 19 then (k19.getD ((i + st) % 19) "").cps.toList else if way = 2 ∨ way = 3 then List.replicate sp (97 + fl) ++ [97 + (st + i) % 26, 97 + i / 26] ++ List.replicate (6 - sp) (97 + fl) else (plainF i).cps.toList) := fun z => by
          unfold nB nA
          rw [if_neg (c := way = 3 ∧ i < 19) z]
          by_cases w1 : way = 1
          · subst w1; rfl
          · rw [if_neg w1, if_neg w1]
        split
        · split
          · refine ⟨_, s9 _ _ h7, _, str_at (ws := k19) (m := ((i : Int) + (st : Int)) % 19) (by omega) (by show _ < ((19 : Nat) : Int); omega), fin _ ?_⟩
            rw [if_neg (by omega), if_pos (by omega), show (((i : Int) + (st : Int)) % 19).toNat = (i + st) % 19 by omega]
          · exact fin _ (nb (by omega))
        · exact fin _ (nb (by omega))
      rintro σD G ⟨rfl, rfl⟩
      wp_walk using tSeq, tyS, inV, eqV
      refine ⟨⟨_, h9⟩, _, h9, by unfold namesF; rw [List.length_map, List.length_map, List.length_range]; exact small1000 (by omega), ?_⟩
      exact ⟨same s9 _, by unfold namesF; rw [List.range_succ, List.map_append, List.map_append]; rfl⟩
    · exact hR _ _ h
  rintro σ9 H9 ⟨y9, y10, rfl, s9, h9⟩
  wp_walk using tSeq, tyS, inV, eqV
  exact ⟨_, .inl ⟨.of h9, fun p hp => q _ _ _ (s7.trans (s9.trans (same_new hp _))) upd_same (by simp [namesF]) (names_good fl1 sp7 n40)⟩⟩
end
abbrev slawrows : Stmt := top 46
def splawrows : Sp := fun vs H Q _ => ∃ (p na : Addr) (ds : List Sd) (os : List Nat) (nm : List Str), vs = [.ref p, .ref na] ∧ ProgAt H p ds os ∧ H na = some (.tup (nm.map V.str)) ∧ nm.length = ds.length ∧ nmOk nm ∧ ∀ H' r, Same H H' → H' r = some (.lst ((textL ds os nm).map V.str)) → Q (.ref r) H'
section
variable {P : Program} {w : World} {K : PySem.W.Frag} {mg : Str → Option Value} {base : Heap} {f : Addr} {fd : FuncData}
theorem sclawrows : FnScope ["program", "names", "rows"] ["program", "names"] (defScope slawrows) := ⟨rfl, rfl, rfl, by decide +kernel, rfl, by decide +kernel, by decide +kernel⟩
theorem oklawrows (F : Fun K "_law_rows" "_law_rows" slawrows f fd) (clawrow : Callee P w K mg base CX0 (3) "_law_row" ["name", "step", "names"] splawrow) (zlen : mg "len" = none) (zrange : mg "range" = none) : FnOk P w K mg base CX0 (4) f fd ["program", "names"] (splawrows) := by
  have sc := sclawrows
  refine F.ok sc (fun vs H Q E h => ?_) (fun cdv A outer s H vs Q E hr h => ?_)
  · obtain ⟨p, na, ds, os, nm, rfl, _⟩ := h; rfl
  obtain ⟨p, na, ds, os, nm, rfl, ⟨st, ou, as, hp, hst, sd, hou, d1, d40, dk, o1, o8, ob⟩, hna, nl, no, q⟩ := h
  refine ⟨_, (pss_cons (ps_setC (own := ["k"]) (fv := ["names", "program"]) (js := [1, 0]) sc.nd (i := 2) rfl (by first | exact Or.inl rfl | exact Or.inr rfl) (by first | exact Or.inl rfl | exact Or.inr rfl) rfl (pi_range1 (by rfl) zrange (pa_cons (pe_callB call_len_seq (by rfl) zlen PySem.boot_len (pa_cons (pv 1) pa_nil)) pa_nil)) rfl (by decide) rfl (by decide) (by first | exact fun _ _ h => h | exact cl_sub1 rfl | exact cl_sub2 rfl rfl | exact cl_sub3 rfl rfl rfl) (has_of (by rfl)) rfl (cap2 (by first | exact ⟨rfl, .inl rfl, .inl rfl⟩ | exact ⟨rfl, .inl rfl, .inr rfl⟩) (by first | exact ⟨rfl, .inl rfl, .inl rfl⟩ | exact ⟨rfl, .inl rfl, .inr rfl⟩)) (fun _ _ _ _ => (pg_name (i := 0) (show (["k", "names", "program"] : List Str).Nodup by decide +kernel) rfl (Or.inl rfl))) (fun _ _ _ _ => (pe_cal clawrow hr (by rfl) pass0 (pa_cons (pe_ix ix_tupH (pv 1) (pv 0) (fun _ _ => rfl)) (pa_cons (pe_ix ix_tupH (pe_ix ix_tupH (pv 2) pe_int (fun _ _ => rfl)) (pv 0) (fun _ _ => rfl)) (pa_cons (pv 1) pa_nil)))))) (pss_cons (ps_expr (pe_app (pv 2) (pe_op op_add_str pe_str (pe_bm PySem.F.plainAttrs_str PySem.F.slot_str_join PySem.F.type_str_join mt_joinW pe_str (pa_cons (pe_comp (own := ["k"]) (fv := ["names"]) (js := [1]) rfl (pi_tup (pe_ix ix_tupH (pv 0) pe_int (fun _ _ => rfl))) rfl (by decide) rfl (by decide) (by first | exact fun _ _ h => h | exact cl_sub1 rfl | exact cl_sub2 rfl rfl | exact cl_sub3 rfl rfl rfl) (has_of (by rfl)) rfl (cap1 (by first | exact ⟨rfl, .inl rfl, .inl rfl⟩ | exact ⟨rfl, .inl rfl, .inr rfl⟩)) (fun _ _ _ _ => (pg_name (i := 0) (show (["k", "names"] : List Str).Nodup by decide +kernel) rfl (Or.inl rfl))) (fun _ _ _ _ => (pe_ix ix_tupH (pv 1) (pv 0) (fun _ _ => rfl)))) pa_nil))))) (pss_one (ps_ret (pv 2))))), ?_⟩
  simp only [L2.start, List.length_cons, List.length_nil, List.replicate, List.cons_append, List.nil_append, Nat.reduceSub, Nat.reduceAdd, List.map_cons, List.map_nil]
  refine seq_with (fun σ H1 => ∃ l, σ = [some (.ref p), some (.ref na), some (.ref l)] ∧ Same H H1 ∧ H l = none ∧ H1 l = some (.lst ((rowsF ds nm ds.length).map V.str))) ?_ (fun R hR => ?_)
  rotate_left
  · wp_walk using tSeq, tyS, inV, eqV
    refine ⟨_, .inr (.of hna), by rw [List.length_map]; omega, by rw [List.length_map]; omega, ?_⟩
    rw [List.length_map, Int.toNat_natCast]
    refine CompR.mk (fun i ys σ G => Same H G ∧ ys = (rowsF ds nm i).map V.str ∧ ∃ y, σ = [y, some (.ref na), some (.ref p)]) ⟨Same.refl _, rfl, _, rfl⟩ (fun i ys σ G hi h => ?_) (fun ys σ G h p2 hp2 => ?_)
    · obtain ⟨sG, rfl, y, rfl⟩ := h
      refine ⟨by rw [List.length_map, rows_len]; exact small1000 (by omega), ?_⟩
      have gi : ds[i]? = some (ds.getD i ⟨0, 0, 0, 0, 0⟩) := by rw [List.getD_eq_getElem?_getD, List.getElem?_eq_getElem (by omega)]; rfl
      obtain ⟨b, eb, db⟩ := sd.2 i _ gi
      have nb := no.2 (nm.getD i "") (List.mem_of_getElem? (getS (by omega)))
      wp_walk using tSeq, tyS, inV, eqV, splawrow
      rw [Int.zero_add]
      refine ⟨_, sG _ _ hna, _, atI_nat (v := .str (nm.getD i "")) (by rw [List.getElem?_map, getS (by omega)]; rfl), _, sG _ _ hp, _, atI_nat (j := 0) rfl, ?_⟩
      exact ⟨st, rfl, _, sG _ _ hst, _, atI_nat (v := .ref b) (by rw [List.getElem?_map, eb]; rfl), _, rfl, b, rfl, _, db.same sG, nm, by rw [nl]; exact dk _ (List.mem_of_getElem? gi), .inr (sG _ _ hna), no, nb, fun G2 s2 => ⟨sG.trans s2, by rw [rows_snoc, List.map_append]; rfl, _, rfl⟩⟩
    · obtain ⟨sG, rfl, y, rfl⟩ := h
      rw [nl]
      exact hR _ _ ⟨p2, rfl, sG.trans (same_new hp2 _), sG.free hp2, upd_same⟩
  rintro σ1 H1 ⟨l, rfl, s1, l0, h1⟩
  have ol : ∀ x ∈ outsF os nm, x.length ≤ 20 := fun x hx => by
    obtain ⟨o, ho, rfl⟩ := List.mem_map.mp hx
    exact no.2 _ (List.mem_of_getElem? (getS (by have := ob o ho; omega)))
  have on : (outsF os nm).length = os.length := by simp [outsF]
  have one : (" " : Str).length = 1 := by decide +kernel
  have tot : totS " " (outsF os nm) ≤ 200 := by
    have := tot_le (z := " ") ol
    rw [one, on] at this
    omega
  have gl := glued_len " " (outsF os nm)
  wp_walk using tSeq, tyS, inV, eqV
  refine ⟨⟨_, h1⟩, _, s1 _ _ hp, _, atI_nat (j := 1) rfl, ?_⟩
  refine CompT.mk (xs := os.map fun (o : Nat) => V.int (o : Int)) (.of (s1 _ _ hou)) (fun i ys σ G => G = H1 ∧ ys = ((outsF os nm).take i).map V.str ∧ ∃ y, σ = [y, some (.ref na)]) ⟨rfl, rfl, _, rfl⟩ (fun i ys σ G _ h => by rw [h.1]; exact .of (s1 _ _ hou)) (fun i x ys σ G e h => ?_) (fun ys σ G h p2 hp2 => ?_)
  · obtain ⟨rfl, rfl, y, rfl⟩ := h
    rw [List.getElem?_map] at e
    cases eo : os[i]? with
    | none => rw [eo] at e; cases e
    | some o =>
      rw [eo] at e
      cases (Option.some.inj e)
      have oi : (outsF os nm)[i]? = some (nm.getD o "") := by unfold outsF; rw [List.getElem?_map, eo]; rfl
      have ob' := ob o (List.mem_of_getElem? eo)
      refine ⟨by rw [List.length_map, List.length_take]; exact small1000 (by omega), ?_⟩
      wp_walk using tSeq, tyS, inV, eqV
      exact ⟨_, s1 _ _ hna, _, atI_nat (v := .str (nm.getD o "")) (by rw [List.getElem?_map, getS (by omega)]; rfl), by rw [List.take_add_one, oi, List.map_append]; rfl, _, rfl⟩
  · obtain ⟨rfl, rfl, y, rfl⟩ := h
    rw [List.take_of_length_le (by simp [on])]
    refine ⟨p2, rfl, _, .of upd_same, by omega, ?_, _, same_new hp2 _ _ _ h1, by rw [List.length_map, rows_len]; exact small1000 (by omega), q _ l ?_ ?_⟩
    · rw [show (Str.ofString "out ").length = 4 by decide +kernel]; exact small (by omega)
    · intro b' o' e'
      rw [upd_ne (fun z => by rw [z, l0] at e'; cases e')]
      exact same_new hp2 _ _ _ (s1 _ _ e')
    · rw [upd_same]
      obtain ⟨x, r, er⟩ : ∃ x r, outsF os nm = x :: r := by
        cases h : outsF os nm with
        | nil => rw [h] at on; simp at on; omega
        | cons x r => exact ⟨x, r, rfl⟩
      unfold textL outS
      rw [er, glued_out, List.map_append]
      rfl
end
abbrev swritten : Stmt := top 16
def spwritten : Sp := fun vs H Q _ => ∃ (p na : Addr) (ds : List Sd) (os : List Nat) (nm : List Str), vs = [.ref p, .ref na] ∧ ProgAt H p ds os ∧ nm.length = ds.length ∧ nmOk nm ∧ H na = some (.tup (nm.map V.str)) ∧ ∀ H', Same H H' → Q (.str (Builtin.Str.glued "\n" (textL ds os nm))) H'
section
variable {P : Program} {w : World} {K : PySem.W.Frag} {mg : Str → Option Value} {base : Heap} {f : Addr} {fd : FuncData}
theorem scwritten : FnScope ["program", "names", "steps", "called", "rows"] ["program", "names"] (defScope swritten) := ⟨rfl, rfl, rfl, by decide +kernel, rfl, by decide +kernel, by decide +kernel⟩
theorem okwritten {dV : Addr} (F : FunD K "written" "written" swritten dV #[.none] f fd) (csteprow : Callee P w K mg base CX0 (2) "step_row" ["name", "step", "names"] spsteprow) (zzip : mg "zip" = none) : FnOk P w K mg base CX0 (3) f fd ["program", "names"] (spwritten) := by
  have sc := scwritten
  refine F.ok sc (fun vs H Q E h => ?_) (fun cdv A outer s H vs Q E hr h => ?_)
  · obtain ⟨p, na, ds, os, nm, rfl, _⟩ := h; rfl
  obtain ⟨p, na, ds, os, nm, rfl, ⟨st, ou, as, hp, hst, sd, hou, d1, d40, dk, o1, o8, ob⟩, nl, no, hna, q⟩ := h
  refine ⟨_, (pss_cons (ps_set (i := 2) sc.nd rfl (by first | exact Or.inl rfl | exact Or.inr rfl) (pe_ix ix_tupH (pv 0) pe_int (fun _ _ => rfl))) (pss_cons (ps_set (i := 3) sc.nd rfl (by first | exact Or.inl rfl | exact Or.inr rfl) (pe_ifExp (pt_cmpR op_isN (pv 1) pe_non (nomark _)) pe_never (pv 1))) (pss_cons (ps_setC (own := ["name", "step"]) (fv := ["called"]) (js := [3]) sc.nd (i := 4) rfl (by first | exact Or.inl rfl | exact Or.inr rfl) (by first | exact Or.inl rfl | exact Or.inr rfl) rfl (pi_zip (by rfl) zzip (pa_cons (pv 3) (pa_cons (pv 2) pa_nil))) rfl (by decide) rfl (by decide) (by first | exact fun _ _ h => h | exact cl_sub1 rfl | exact cl_sub2 rfl rfl | exact cl_sub3 rfl rfl rfl) (has_of (by rfl)) rfl (cap1 (by first | exact ⟨rfl, .inl rfl, .inl rfl⟩ | exact ⟨rfl, .inl rfl, .inr rfl⟩)) (fun _ _ _ _ => (pg_tupH (n := 2) (pg_tup rfl (pgs_cons (pg_name (i := 0) (show (["name", "step", "called"] : List Str).Nodup by decide +kernel) rfl (Or.inl rfl)) (pgs_cons (pg_name (i := 1) (show (["name", "step", "called"] : List Str).Nodup by decide +kernel) rfl (Or.inl rfl)) pgs_nil))))) (fun _ _ _ _ => (pe_cal csteprow hr (by rfl) pass0 (pa_cons (pv 0) (pa_cons (pv 1) (pa_cons (pv 2) pa_nil)))))) (pss_cons (ps_expr (pe_app (pv 4) (pe_bm PySem.F.plainAttrs_str PySem.F.slot_str_join PySem.F.type_str_join mt_joinW pe_str (pa_cons (pe_op op_cat (pe_lst (pa_cons pe_str pa_nil)) (pe_comp (own := ["out"]) (fv := ["called"]) (js := [3]) rfl (pi_tup (pe_ix ix_tupH (pv 0) pe_int (fun _ _ => rfl))) rfl (by decide) rfl (by decide) (by first | exact fun _ _ h => h | exact cl_sub1 rfl | exact cl_sub2 rfl rfl | exact cl_sub3 rfl rfl rfl) (has_of (by rfl)) rfl (cap1 (by first | exact ⟨rfl, .inl rfl, .inl rfl⟩ | exact ⟨rfl, .inl rfl, .inr rfl⟩)) (fun _ _ _ _ => (pg_name (i := 0) (show (["out", "called"] : List Str).Nodup by decide +kernel) rfl (Or.inl rfl))) (fun _ _ _ _ => (pe_ix ix_tupH (pv 1) (pv 0) (fun _ _ => rfl))))) pa_nil)))) (pss_one (ps_ret (pe_bm PySem.F.plainAttrs_str PySem.F.slot_str_join PySem.F.type_str_join mt_joinW pe_str (pa_cons (pv 4) pa_nil)))))))), ?_⟩
  simp only [L2.start, List.length_cons, List.length_nil, List.replicate, List.cons_append, List.nil_append, Nat.reduceSub, Nat.reduceAdd, List.map_cons, List.map_nil]
  refine seq_with (fun σ H1 => H1 = H ∧ σ = [some (.ref p), some (.ref na), some (.ref st), none, none]) ?_ (fun R hR => ?_)
  rotate_left
  · wp_walk using tSeq, tyS, inV, eqV
    exact ⟨_, hp, _, atI_nat (j := 0) rfl, hR _ _ ⟨rfl, rfl⟩⟩
  rintro σ1 H1 ⟨rfl, rfl⟩
  refine seq_with (fun σ H2 => ∃ ca, σ = [some (.ref p), some (.ref na), some (.ref st), some (.ref ca), none] ∧ Same H1 H2 ∧ H2 ca = some (.tup (nm.map V.str))) ?_ (fun R hR => ?_)
  rotate_left
  · wp_walk using tSeq, tyS, inV, eqV
    rw [if_neg (by intro z; cases z)]
    exact hR _ _ ⟨na, rfl, Same.refl _, hna⟩
  rintro σ2 H2 ⟨ca, rfl, s2, h2⟩
  refine seq_with (fun σ H3 => ∃ l, σ = [some (.ref p), some (.ref na), some (.ref st), some (.ref ca), some (.ref l)] ∧ Same H2 H3 ∧ H2 l = none ∧ H3 l = some (.lst ((rowsF ds nm ds.length).map V.str))) ?_ (fun R hR => ?_)
  rotate_left
  · wp_walk using tSeq, tyS, inV, eqV
    refine CompZ.mk (xs := nm.map V.str) (ys := as.map V.ref) ds.length (by rw [List.length_map, List.length_map, sd.1]; omega) (.of h2) (.of (s2 _ _ hst)) (fun i zs σ G => Same H2 G ∧ i ≤ ds.length ∧ zs = (rowsF ds nm i).map V.str ∧ ∃ y0 y1, σ = [y0, y1, some (.ref ca)]) ⟨Same.refl _, Nat.zero_le _, rfl, _, _, rfl⟩ (fun i zs σ G _ h => ⟨.of (h.1 _ _ h2), .of (h.1 _ _ (s2 _ _ hst))⟩) (fun i x y zs σ G T hi ex ey h hT => ?_) (fun zs σ G h p2 hp2 => ?_) (fun i zs σ G h => by rw [h.2.2.1, List.length_map, rows_len]; exact small1000 (by have := h.2.1; omega))
    · obtain ⟨sG, ii, rfl, y0, y1, rfl⟩ := h
      refine ⟨by rw [List.length_map, rows_len]; exact small1000 (by omega), ?_⟩
      have gi : ds[i]? = some (ds.getD i ⟨0, 0, 0, 0, 0⟩) := by rw [List.getD_eq_getElem?_getD, List.getElem?_eq_getElem hi]; rfl
      obtain ⟨b, eb, db⟩ := sd.2 i _ gi
      rw [List.getElem?_map, getS (by omega)] at ex
      rw [List.getElem?_map, eb] at ey
      cases (Option.some.inj ex)
      cases (Option.some.inj ey)
      have nb := no.2 (nm.getD i "") (List.mem_of_getElem? (getS (by omega)))
      have sT := (s2.trans sG).trans (same_new hT (HO.tup [V.str (nm.getD i ""), V.ref b]))
      wp_walk using tSeq, tyS, inV, eqV, spsteprow
      exact ⟨_, db.same sT, nm, by rw [nl]; exact dk _ (List.mem_of_getElem? gi), by first | exact Or.inl ((sG.trans (same_new hT _)) _ _ h2) | exact Or.inr ((sG.trans (same_new hT _)) _ _ h2), no, nb, fun G2 s5 => ⟨sG.trans ((same_new hT _).trans s5), hi, by rw [rows_snoc, List.map_append]; rfl, _, rfl⟩⟩
    · obtain ⟨sG, ii, rfl, y0, y1, rfl⟩ := h
      exact hR _ _ ⟨p2, rfl, sG.trans (same_new hp2 _), sG.free hp2, upd_same⟩
  rintro σ3 H3 ⟨l, rfl, s3, l0, h3⟩
  refine seq_with (fun σ H4 => σ = [some (.ref p), some (.ref na), some (.ref st), some (.ref ca), some (.ref l)] ∧ Same H1 H4 ∧ H4 l = some (.lst ((textL ds os nm).map V.str))) ?_ (fun R hR => ?_)
  rotate_left
  · wp_walk using tSeq, tyS, inV, eqV
    refine ⟨⟨_, h3⟩, small (by decide), fun p1 hp1 => ?_⟩
    have s4 := (s2.trans s3).trans (same_new hp1 (HO.lst [V.str "out"]))
    have ca4 := (s3.trans (same_new hp1 (HO.lst [V.str "out"]))) _ _ h2
    have l4 := same_new hp1 (HO.lst [V.str "out"]) _ _ h3
    have g4 : upd H3 p1 (HO.lst [V.str "out"]) p1 = some (HO.lst [V.str "out"]) := upd_same
    generalize upd H3 p1 (HO.lst [V.str "out"]) = H4 at *
    have on : (outsF os nm).length = os.length := by simp [outsF]
    refine ⟨_, s4 _ _ hp, _, atI_nat (j := 1) rfl, ?_⟩
    refine CompT.mk (xs := os.map fun (o : Nat) => V.int (o : Int)) (.of (s4 _ _ hou)) (fun i ys σ G => G = H4 ∧ ys = ((outsF os nm).take i).map V.str ∧ ∃ y, σ = [y, some (.ref ca)]) ⟨rfl, rfl, _, rfl⟩ (fun i ys σ G _ h => by rw [h.1]; exact .of (s4 _ _ hou)) (fun i x ys σ G e h => ?_) (fun ys σ G h p2 hp2 => ?_)
    · obtain ⟨rfl, rfl, y, rfl⟩ := h
      rw [List.getElem?_map] at e
      cases eo : os[i]? with
      | none => rw [eo] at e; cases e
      | some o =>
        rw [eo] at e
        cases (Option.some.inj e)
        have oi : (outsF os nm)[i]? = some (nm.getD o "") := by unfold outsF; rw [List.getElem?_map, eo]; rfl
        have ob' := ob o (List.mem_of_getElem? eo)
        refine ⟨by rw [List.length_map, List.length_take]; exact small1000 (by omega), ?_⟩
        wp_walk using tSeq, tyS, inV, eqV
        exact ⟨_, ca4, _, atI_nat (v := .str (nm.getD o "")) (by rw [List.getElem?_map, getS (by omega)]; rfl), by rw [List.take_add_one, oi, List.map_append]; rfl, _, rfl⟩
    · obtain ⟨rfl, rfl, y, rfl⟩ := h
      rw [List.take_of_length_le (by simp [on])]
      refine ⟨p2, rfl, _, same_new hp2 _ _ _ g4, _, upd_same, by rw [List.length_map, on]; exact small (by simp; omega), fun p3 hp3 => ⟨"out" :: outsF os nm, .of upd_same, Nat.le_trans (out_len no o8 fun o ho => by rw [nl]; exact ob o ho) (by decide), _, same_new hp3 _ _ _ (same_new hp2 _ _ _ l4), by rw [List.length_map, rows_len]; exact small1000 (by omega), hR _ _ ⟨rfl, ?_, ?_⟩⟩⟩
      · intro b' o' e'
        rw [upd_ne (fun z => by have := s2 _ _ e'; rw [z, l0] at this; cases this)]
        exact same_new hp3 _ _ _ (same_new hp2 _ _ _ (s4 _ _ e'))
      · rw [upd_same]; unfold textL outS; rw [List.map_append]; rfl
  rintro σ4 H4 ⟨rfl, s4, h4⟩
  wp_walk using tSeq, tyS, inV, eqV
  exact ⟨_, .of h4, text_tot sd d40 dk nl no o8 ob, q _ s4⟩
end
abbrev slawalike : Stmt := top 47
def splawalike : Nat → Sp := fun d => match d with | 0 => fun _ _ _ _ => False | d + 1 => fun vs H Q _ => ∃ (x y : V), vs = [x, y] ∧ AlAt H (d + 1) x y ∧ ∀ H', Same H H' → Q (.bl true) H'
section
variable {P : Program} {w : World} {K : PySem.W.Frag} {mg : Str → Option Value} {base : Heap} {f : Addr} {fd : FuncData}
theorem sclawalike : FnScope ["found", "due", "k"] ["found", "due"] (defScope slawalike) := ⟨rfl, rfl, rfl, by decide +kernel, rfl, by decide +kernel, by decide +kernel⟩
theorem oklawalike (F : Fun K "_law_alike" "_law_alike" slawalike f fd) {d0 : Nat} (clawalike : Callee P w K mg base CX0 (d0 + 0) "_law_alike" ["found", "due"] (splawalike d0)) (zisinstance : mg "isinstance" = none) (ztuple : mg "tuple" = none) (zlen : mg "len" = none) (zrange : mg "range" = none) (zstr : mg "str" = none) (zint : mg "int" = none) (zbool : mg "bool" = none) : FnOk P w K mg base CX0 (d0 + 1) f fd ["found", "due"] (splawalike (d0 + 1)) := by
  have sc := sclawalike
  refine F.ok sc (fun vs H Q E h => ?_) (fun cdv A outer s H vs Q E hr h => ?_)
  · obtain ⟨x, y, rfl, _⟩ := h; rfl
  obtain ⟨x, y, rfl, ha, q⟩ := h
  refine ⟨_, (pss_cons (ps_if (pt_val (pe_callB call_isiV (by rfl) zisinstance boot_isinstance (pa_cons (pv 1) (pa_cons (pe_bltn (v := .ty "tuple") (by rfl) ztuple boot_tuple rfl) pa_nil)))) (pss_cons (ps_if (pw_or (pt_not (pt_val (pe_callB call_isiV (by rfl) zisinstance boot_isinstance (pa_cons (pv 0) (pa_cons (pe_bltn (v := .ty "tuple") (by rfl) ztuple boot_tuple rfl) pa_nil))))) (pw_or1 (pt_cmpR op_ne (pe_callB call_len_seq (by rfl) zlen PySem.boot_len (pa_cons (pv 0) pa_nil)) (pe_callB call_len_seq (by rfl) zlen PySem.boot_len (pa_cons (pv 1) pa_nil)) (nomark _)))).pt (pss_one (ps_ret pe_bl)) pss_nil) (pss_cons (ps_for PassesOwn.never rfl (pi_range1 (by rfl) zrange (pa_cons (pe_callB call_len_seq (by rfl) zlen PySem.boot_len (pa_cons (pv 1) pa_nil)) pa_nil)) (pg_name (i := 2) sc.nd rfl (Or.inl rfl)) (pss_one (ps_if (pt_not (pt_val (pe_cal clawalike hr (by rfl) pass0 (pa_cons (pe_ix ix_tupH (pv 0) (pv 2) (fun _ _ => rfl)) (pa_cons (pe_ix ix_tupH (pv 1) (pv 2) (fun _ _ => rfl)) pa_nil))))) (pss_one (ps_ret pe_bl)) pss_nil))) (pss_one (ps_ret pe_bl)))) pss_nil) (pss_cons (ps_if (pt_val (pe_callB call_isiV (by rfl) zisinstance boot_isinstance (pa_cons (pv 1) (pa_cons (pe_bltn (v := .ty "str") (by rfl) zstr boot_str rfl) pa_nil)))) (pss_one (ps_ret (pe_and (pe_callB call_isiV (by rfl) zisinstance boot_isinstance (pa_cons (pv 0) (pa_cons (pe_bltn (v := .ty "str") (by rfl) zstr boot_str rfl) pa_nil))) (pe_one (pe_cmpR op_eq (pv 0) (pv 1) (nomark _)))))) pss_nil) (pss_one (ps_ret (pe_and (pe_callB call_isiV (by rfl) zisinstance boot_isinstance (pa_cons (pv 0) (pa_cons (pe_bltn (v := .ty "int") (by rfl) zint boot_int rfl) pa_nil))) (pe_and (pe_not (pe_callB call_isiV (by rfl) zisinstance boot_isinstance (pa_cons (pv 0) (pa_cons (pe_bltn (v := .ty "bool") (by rfl) zbool boot_bool rfl) pa_nil)))) (pe_one (pe_cmpR op_eq (pv 0) (pv 1) (nomark _))))))))), ?_⟩
  rcases ha with ⟨n, rfl, rfl⟩ | ⟨w, rfl, rfl⟩ | ⟨a, b, xs, ys, rfl, rfl, ha, hb, l1, l2, el⟩
  · wp_walk using tSeq, inV, eqV
    refine ⟨"int", .inl rfl, ?_⟩
    rw [if_neg (by decide +kernel)]
    refine ⟨"int", .inl rfl, ?_⟩
    rw [if_neg (by decide +kernel)]
    refine ⟨"int", .inl rfl, ?_⟩
    rw [if_pos (by decide +kernel)]
    refine ⟨"int", .inl rfl, ?_⟩
    rw [if_pos (by decide +kernel), decide_eq_true trivial]
    exact q _ (Same.refl _)
  · wp_walk using tSeq, inV, eqV
    refine ⟨"str", .inl rfl, ?_⟩
    rw [if_neg (by decide +kernel)]
    refine ⟨"str", .inl rfl, ?_⟩
    rw [if_pos (by decide +kernel)]
    refine ⟨"str", .inl rfl, ?_⟩
    rw [if_pos (by decide +kernel), decide_eq_true trivial]
    exact q _ (Same.refl _)
  · wp_walk using tSeq, inV, eqV
    refine ⟨"tuple", .inr ⟨ys, hb, rfl⟩, ?_⟩
    rw [if_pos (by decide +kernel)]
    refine ⟨"tuple", .inr ⟨xs, ha, rfl⟩, ?_⟩
    rw [if_neg (by decide +kernel)]
    refine ⟨xs, .inr (.of ha), ys, .inr (.of hb), ?_⟩
    rw [if_neg (by rw [l1]; simp)]
    refine ⟨ys, .inr (.of hb), by omega, by omega, ?_⟩
    refine LoopR.mk (fun i σ H' => Same H H' ∧ ∃ y, σ = [some (.ref a), some (.ref b), y]) ⟨Same.refl _, _, rfl⟩ (fun i σ H' hi h => ?_) (fun σ H' h => ?_)
    · obtain ⟨k1, y, rfl⟩ := h
      rw [Int.zero_add]
      have i1 : i < ys.length := by omega
      have i2 : i < xs.length := by omega
      have e1 := List.getElem?_eq_getElem i1
      have e2 := List.getElem?_eq_getElem i2
      have al := el i _ _ e2 e1
      wp_walk using tSeq, inV, eqV
      refine ⟨_, k1 _ _ ha, _, atI_nat e2, _, k1 _ _ hb, _, atI_nat e1, ?_⟩
      cases d0 with
      | zero => exact al.elim
      | succ d =>
        refine ⟨_, _, rfl, al.same k1, fun H2 s2 => ?_⟩
        exact ⟨true, rfl, by rw [if_neg (by decide)]; exact ⟨k1.trans s2, _, rfl⟩⟩
    · obtain ⟨k1, y, rfl⟩ := h
      wp_walk using tSeq, inV, eqV
      exact q _ k1
theorem oklawalikeA (F : Fun K "_law_alike" "_law_alike" slawalike f fd) (zisinstance : mg "isinstance" = none) (ztuple : mg "tuple" = none) (zlen : mg "len" = none) (zrange : mg "range" = none) (zstr : mg "str" = none) (zint : mg "int" = none) (zbool : mg "bool" = none) (m : mg "_law_alike" = some (.ref f)) (b : Binds K fd ["found", "due"] []) : ∀ d0 : Nat, FnOk P w K mg base CX0 (d0 + 0) f fd ["found", "due"] (splawalike d0)
  | 0 => ⟨fun _ _ _ _ h => h.elim, fun _ _ _ _ _ _ _ _ _ _ _ _ _ h => h.elim⟩
  | d0 + 1 => (oklawalike F (Callee.mk' F m b (oklawalikeA F zisinstance ztuple zlen zrange zstr zint zbool m b d0)) zisinstance ztuple zlen zrange zstr zint zbool).mono (by omega)
end
abbrev slaw : Stmt := top 48
def splaw : PySem.W.Frag → Sp := fun K => fun vs H Q _ => ∃ (a : Addr) (ns : List Int), vs = [.ref a] ∧ SqL K H a (ns.map V.int) ∧ ns.length ≤ 63 ∧ ∀ H', Q (.bl true) H'
section
variable {P : Program} {w : World} {K : PySem.W.Frag} {mg : Str → Option Value} {base : Heap} {f : Addr} {fd : FuncData}
theorem sclaw : FnScope ["script", "program", "names"] ["script"] (defScope slaw) := ⟨rfl, rfl, rfl, by decide +kernel, rfl, by decide +kernel, by decide +kernel⟩
theorem oklaw (F : Fun K "law" "law" slaw f fd) (clawprogram : Callee P w K mg base CX0 (7) "_law_program" ["script"] (splawprogram K)) (clawnames : Callee P w K mg base CX0 (7) "_law_names" ["cell", "many"] splawnames) (clawrows : Callee P w K mg base CX0 (7) "_law_rows" ["program", "names"] splawrows) (cwritten : Callee P w K mg base CX0 (7) "written" ["program", "names"] spwritten) (cread : Callee P w K mg base CX0 (7) "read" ["text"] spread) (clawalike : Callee P w K mg base CX0 (7) "_law_alike" ["found", "due"] (splawalike 6)) (zsum : mg "sum" = none) (zlen : mg "len" = none) : FnOk P w K mg base CX0 (8) f fd ["script"] (splaw K) := by
  have sc := sclaw
  refine F.ok sc (fun vs H Q E h => ?_) (fun cdv A outer s H vs Q E hr h => ?_)
  · obtain ⟨a, ns, rfl, _⟩ := h; rfl
  obtain ⟨a, ns, rfl, hS, h63, q⟩ := h
  refine ⟨_, (pss_cons (ps_set (i := 1) sc.nd rfl (by first | exact Or.inl rfl | exact Or.inr rfl) (pe_cal clawprogram hr (by rfl) pass0 (pa_cons (pv 0) pa_nil))) (pss_cons (ps_set (i := 2) sc.nd rfl (by first | exact Or.inl rfl | exact Or.inr rfl) (pe_cal clawnames hr (by rfl) pass0 (pa_cons (pe_callB (call_sumL rfl) (by rfl) zsum boot_sum (pa_cons (pv 0) pa_nil)) (pa_cons (pe_callB call_len_seq (by rfl) zlen PySem.boot_len (pa_cons (pe_ix ix_tupH (pv 1) pe_int (fun _ _ => rfl)) pa_nil)) pa_nil)))) (pss_cons (ps_if (pt_not (pt_val (pe_cal clawalike hr (by rfl) pass0 (pa_cons (pe_cal cread hr (by rfl) pass0 (pa_cons (pe_bm PySem.F.plainAttrs_str PySem.F.slot_str_join PySem.F.type_str_join mt_joinW pe_str (pa_cons (pe_cal clawrows hr (by rfl) pass0 (pa_cons (pv 1) (pa_cons (pv 2) pa_nil))) pa_nil)) pa_nil)) (pa_cons (pe_tup (pa_cons (pv 1) (pa_cons (pv 2) pa_nil))) pa_nil))))) (pss_one (ps_ret pe_bl)) pss_nil) (pss_one (ps_ret (pe_cal clawalike hr (by rfl) pass0 (pa_cons (pe_cal cread hr (by rfl) pass0 (pa_cons (pe_cal cwritten hr (by rfl) pass0 (pa_cons (pv 1) (pa_cons (pv 2) pa_nil))) pa_nil)) (pa_cons (pe_tup (pa_cons (pv 1) (pa_cons (pv 2) pa_nil))) pa_nil)))))))), ?_⟩
  simp only [L2.start, List.length_cons, List.length_nil, List.replicate, List.cons_append, List.nil_append, Nat.reduceSub, Nat.reduceAdd, List.map_cons, List.map_nil]
  refine seq_with (fun σ H1 => ∃ (p : Addr) (ds : List Sd) (os : List Nat), σ = [some (.ref a), some (.ref p), none] ∧ Same H H1 ∧ ProgAt H1 p ds os ∧ OrdOk ds) ?_ (fun R hR => ?_)
  rotate_left
  · wp_walk using tSeq, tyS, inV, eqV, splawprogram
    exact ⟨ns, hS, h63, fun H1 p st ou ds as os s1 e1 e2 e3 e4 e5 e6 e7 e8 e9 e10 e11 => hR _ _ ⟨p, ds, os, rfl, s1, ⟨st, ou, as, e1, e2, e3, e7, e4, e5, e6, e8, e9, e10⟩, e11⟩⟩
  rintro σ1 H1 ⟨p, ds, os, rfl, s1, pr, od⟩
  obtain ⟨st, ou, as, hp, hst, sd, hou, d1, d40, dk, o1, o8, ob⟩ := id pr
  refine seq_with (fun σ H2 => ∃ (na : Addr) (nm : List Str), σ = [some (.ref a), some (.ref p), some (.ref na)] ∧ Same H1 H2 ∧ H2 na = some (.tup (nm.map V.str)) ∧ nm.length = ds.length ∧ nmGood nm) ?_ (fun R hR => ?_)
  rotate_left
  · wp_walk using tSeq, tyS, inV, eqV, splawnames
    refine ⟨ns, s1.seq hS, _, hp, _, atI_nat (j := 0) rfl, ?_⟩
    refine ⟨st, rfl, _, .inr (.of hst), ?_⟩
    rw [List.length_map, sd.1]
    exact ⟨ds.length, rfl, d40, fun G na nm g1 e1 nl no => hR _ _ ⟨na, nm, rfl, g1, e1, nl, no⟩⟩
  rintro σ2 H2 ⟨na, nm, rfl, s2, hna, nl, g⟩
  have no : nmOk nm := nameOk.nm g (by omega)
  have pr2 := pr.same s2
  have fin : ∀ {G : Hp} {x q2 na2 t : Addr}, Same H2 G → G x = some (.tup [.ref q2, .ref na2]) → ProgAt G q2 ds os → G na2 = some (.tup (nm.map V.str)) → G t = some (.tup [.ref p, .ref na]) → AlAt G 6 (.ref x) (.ref t) := fun sG hx hq hn ht =>
    .tup hx ht (by simp) ⟨prog_al hq (pr2.same sG), .tup hn (sG _ _ hna) (by rw [List.length_map]; omega) (al_strs nm), trivial⟩
  refine seq_with (fun σ H3 => σ = [some (.ref a), some (.ref p), some (.ref na)] ∧ Same H2 H3) ?_ (fun R hR => ?_)
  rotate_left
  · wp_walk using tSeq, tyS, inV, eqV, splawrows, spread, splawalike
    refine ⟨ds, os, pr2, nm, hna, nl, no, fun G r sG hr => ⟨_, .of hr, text_tot (sd.same s2) d40 dk nl no o8 ob, ?_⟩⟩
    refine ⟨ds, os, nm, rfl, g, nl, od, ⟨p, pr2.same sG⟩, fun G2 x q2 na2 t2 e1 e2 e3 => ?_⟩
    refine ⟨small (by decide), fun t ht => ?_⟩
    exact ⟨fin ((sG.trans t2).trans (same_new ht _)) (same_new ht _ _ _ e1) (e2.same (same_new ht _)) (same_new ht _ _ _ e3) upd_same, fun G3 t3 => hR _ _ ⟨rfl, (sG.trans t2).trans ((same_new ht _).trans t3)⟩⟩
  rintro σ3 H3 ⟨rfl, s3⟩
  wp_walk using tSeq, tyS, inV, eqV, spwritten, spread, splawalike
  refine ⟨ds, os, pr2.same s3, nm, nl, no, s3 _ _ hna, fun G sG => ?_⟩
  refine ⟨ds, os, nm, rfl, g, nl, od, ⟨p, (pr2.same s3).same sG⟩, fun G2 x q2 na2 t2 e1 e2 e3 => ?_⟩
  refine ⟨small (by decide), fun t ht => ?_⟩
  exact ⟨fin ((s3.trans (sG.trans t2)).trans (same_new ht _)) (same_new ht _ _ _ e1) (e2.same (same_new ht _)) (same_new ht _ _ _ e3) upd_same, fun G3 t3 => q _⟩
end
theorem us_len1 {α : Type} {us : List α} (h : us.length = 1) : ∃ x0, us = [x0] := by
  match us, h with
  | [x0], _ => exact ⟨_, rfl⟩
theorem us_len2 {α : Type} {us : List α} (h : us.length = 2) : ∃ x0 x1, us = [x0, x1] := by
  match us, h with
  | [x0, x1], _ => exact ⟨_, _, rfl⟩
theorem us_len3 {α : Type} {us : List α} (h : us.length = 3) : ∃ x0 x1 x2, us = [x0, x1, x2] := by
  match us, h with
  | [x0, x1, x2], _ => exact ⟨_, _, _, rfl⟩
theorem all_mk {l : PySem.W.OpenLaw} {w : World} {K : PySem.W.Frag} {h : Heap} {mg : Str → Option Value} {fa f0 f1 f2 f3 f4 f5 f6 f7 f8 f9 f10 f11 f12 f13 f14 f15 f16 f17 f18 f19 f20 f21 f22 f23 f24 f25 f26 f27 f28 f29 f30 f31 : Addr} (X : K.In h) (G : h.Ns mainGlobals mg) (hfa : mg "law" = some (.ref fa))
    {od0 an0 od1 an1 od2 an2 od3 an3 od4 an4 od5 an5 od6 an6 od7 an7 od8 an8 od9 an9 od10 an10 od11 an11 od12 an12 od13 an13 od14 an14 od15 an15 od16 an16 od17 an17 od18 an18 od19 an19 od20 an20 od21 an21 od22 an22 od23 an23 od24 an24 od25 an25 od26 an26 od27 an27 od28 an28 od29 an29 od30 an30 od31 an31 : Option Addr} {sl0 sl1 sl2 sl3 sl4 sl5 sl6 sl7 sl8 sl9 sl10 sl11 sl12 sl13 sl14 sl15 sl16 sl17 sl18 sl19 sl20 sl21 sl22 sl23 sl24 sl25 sl26 sl27 sl28 sl29 sl30 sl31 : Array (Option Value)} {oc0 kV0 dc0 pm0 ct0 cd0 oc1 kV1 dc1 pm1 ct1 cd1 oc2 kV2 dc2 pm2 ct2 cd2 oc3 kV3 dc3 pm3 ct3 cd3 oc4 kV4 dc4 pm4 ct4 cd4 oc5 kV5 dc5 pm5 ct5 cd5 oc6 kV6 dc6 pm6 ct6 cd6 oc7 kV7 dc7 pm7 ct7 cd7 oc8 kV8 dc8 pm8 ct8 cd8 oc9 kV9 dc9 pm9 ct9 cd9 oc10 kV10 dc10 pm10 ct10 cd10 oc11 kV11 dc11 pm11 ct11 cd11 oc12 kV12 dc12 pm12 ct12 cd12 oc13 kV13 dc13 pm13 ct13 cd13 oc14 kV14 dc14 pm14 ct14 cd14 oc15 kV15 dc15 pm15 ct15 cd15 oc16 kV16 dc16 pm16 ct16 cd16 oc17 kV17 dc17 pm17 ct17 cd17 oc18 kV18 dc18 pm18 ct18 cd18 oc19 kV19 dc19 pm19 ct19 cd19 oc20 kV20 dc20 pm20 ct20 cd20 oc21 kV21 dc21 pm21 ct21 cd21 oc22 kV22 dc22 pm22 ct22 cd22 oc23 kV23 dc23 pm23 ct23 cd23 oc24 kV24 dc24 pm24 ct24 cd24 oc25 kV25 dc25 pm25 ct25 cd25 oc26 kV26 dc26 pm26 ct26 cd26 oc27 kV27 dc27 pm27 ct27 cd27 oc28 kV28 dc28 pm28 ct28 cd28 oc29 kV29 dc29 pm29 ct29 cd29 oc30 kV30 dc30 pm30 ct30 cd30 oc31 kV31 dc31 pm31 ct31 cd31 : Value}
    (a0 : PySem.W.nsIn K mainGlobals "parts_of" = some (some (.ref f0))) (l0 : K.lookup f0 = some ⟨oc0, od0, .func (PySem.W.fnOf "parts_of" "parts_of" (defArgs spartsof) (defBody spartsof) (defScope spartsof) .none kV0 dc0 pm0 an0 cd0 ct0), sl0⟩) (q0 : PySem.W.codeIn K cd0 "parts_of" = true) (k0 : PySem.W.keepIn K (.ref f0) = true)
    (a1 : PySem.W.nsIn K mainGlobals "part_words" = some (some (.ref f1))) (l1 : K.lookup f1 = some ⟨oc1, od1, .func (PySem.W.fnOf "part_words" "part_words" (defArgs spartwords) (defBody spartwords) (defScope spartwords) .none kV1 dc1 pm1 an1 cd1 ct1), sl1⟩) (q1 : PySem.W.codeIn K cd1 "part_words" = true) (k1 : PySem.W.keepIn K (.ref f1) = true)
    (a2 : PySem.W.nsIn K mainGlobals "step_row" = some (some (.ref f2))) (l2 : K.lookup f2 = some ⟨oc2, od2, .func (PySem.W.fnOf "step_row" "step_row" (defArgs ssteprow) (defBody ssteprow) (defScope ssteprow) .none kV2 dc2 pm2 an2 cd2 ct2), sl2⟩) (q2 : PySem.W.codeIn K cd2 "step_row" = true) (k2 : PySem.W.keepIn K (.ref f2) = true)
    (a3 : PySem.W.nsIn K mainGlobals "is_form" = some (some (.ref f3))) (l3 : K.lookup f3 = some ⟨oc3, od3, .func (PySem.W.fnOf "is_form" "is_form" (defArgs sisform) (defBody sisform) (defScope sisform) .none kV3 dc3 pm3 an3 cd3 ct3), sl3⟩) (q3 : PySem.W.codeIn K cd3 "is_form" = true) (k3 : PySem.W.keepIn K (.ref f3) = true)
    (a4 : PySem.W.nsIn K mainGlobals "is_made_of" = some (some (.ref f4))) (l4 : K.lookup f4 = some ⟨oc4, od4, .func (PySem.W.fnOf "is_made_of" "is_made_of" (defArgs sismadeof) (defBody sismadeof) (defScope sismadeof) .none kV4 dc4 pm4 an4 cd4 ct4), sl4⟩) (q4 : PySem.W.codeIn K cd4 "is_made_of" = true) (k4 : PySem.W.keepIn K (.ref f4) = true)
    (a5 : PySem.W.nsIn K mainGlobals "is_name" = some (some (.ref f5))) (l5 : K.lookup f5 = some ⟨oc5, od5, .func (PySem.W.fnOf "is_name" "is_name" (defArgs sisname) (defBody sisname) (defScope sisname) .none kV5 dc5 pm5 an5 cd5 ct5), sl5⟩) (q5 : PySem.W.codeIn K cd5 "is_name" = true) (k5 : PySem.W.keepIn K (.ref f5) = true)
    (a6 : PySem.W.nsIn K mainGlobals "figures_of" = some (some (.ref f6))) (l6 : K.lookup f6 = some ⟨oc6, od6, .func (PySem.W.fnOf "figures_of" "figures_of" (defArgs sfiguresof) (defBody sfiguresof) (defScope sfiguresof) .none kV6 dc6 pm6 an6 cd6 ct6), sl6⟩) (q6 : PySem.W.codeIn K cd6 "figures_of" = true) (k6 : PySem.W.keepIn K (.ref f6) = true)
    (a7 : PySem.W.nsIn K mainGlobals "small_of" = some (some (.ref f7))) (l7 : K.lookup f7 = some ⟨oc7, od7, .func (PySem.W.fnOf "small_of" "small_of" (defArgs ssmallof) (defBody ssmallof) (defScope ssmallof) .none kV7 dc7 pm7 an7 cd7 ct7), sl7⟩) (q7 : PySem.W.codeIn K cd7 "small_of" = true) (k7 : PySem.W.keepIn K (.ref f7) = true)
    (a8 : PySem.W.nsIn K mainGlobals "number_of" = some (some (.ref f8))) (l8 : K.lookup f8 = some ⟨oc8, od8, .func (PySem.W.fnOf "number_of" "number_of" (defArgs snumberof) (defBody snumberof) (defScope snumberof) .none kV8 dc8 pm8 an8 cd8 ct8), sl8⟩) (q8 : PySem.W.codeIn K cd8 "number_of" = true) (k8 : PySem.W.keepIn K (.ref f8) = true)
    (a9 : PySem.W.nsIn K mainGlobals "smalls_of" = some (some (.ref f9))) (l9 : K.lookup f9 = some ⟨oc9, od9, .func (PySem.W.fnOf "smalls_of" "smalls_of" (defArgs ssmallsof) (defBody ssmallsof) (defScope ssmallsof) .none kV9 dc9 pm9 an9 cd9 ct9), sl9⟩) (q9 : PySem.W.codeIn K cd9 "smalls_of" = true) (k9 : PySem.W.keepIn K (.ref f9) = true)
    (a10 : PySem.W.nsIn K mainGlobals "part_of" = some (some (.ref f10))) (l10 : K.lookup f10 = some ⟨oc10, od10, .func (PySem.W.fnOf "part_of" "part_of" (defArgs spartof) (defBody spartof) (defScope spartof) .none kV10 dc10 pm10 an10 cd10 ct10), sl10⟩) (q10 : PySem.W.codeIn K cd10 "part_of" = true) (k10 : PySem.W.keepIn K (.ref f10) = true)
    (a11 : PySem.W.nsIn K mainGlobals "step_of" = some (some (.ref f11))) (l11 : K.lookup f11 = some ⟨oc11, od11, .func (PySem.W.fnOf "step_of" "step_of" (defArgs sstepof) (defBody sstepof) (defScope sstepof) .none kV11 dc11 pm11 an11 cd11 ct11), sl11⟩) (q11 : PySem.W.codeIn K cd11 "step_of" = true) (k11 : PySem.W.keepIn K (.ref f11) = true)
    (a12 : PySem.W.nsIn K mainGlobals "row_step" = some (some (.ref f12))) (l12 : K.lookup f12 = some ⟨oc12, od12, .func (PySem.W.fnOf "row_step" "row_step" (defArgs srowstep) (defBody srowstep) (defScope srowstep) .none kV12 dc12 pm12 an12 cd12 ct12), sl12⟩) (q12 : PySem.W.codeIn K cd12 "row_step" = true) (k12 : PySem.W.keepIn K (.ref f12) = true)
    (a13 : PySem.W.nsIn K mainGlobals "row_outs" = some (some (.ref f13))) (l13 : K.lookup f13 = some ⟨oc13, od13, .func (PySem.W.fnOf "row_outs" "row_outs" (defArgs srowouts) (defBody srowouts) (defScope srowouts) .none kV13 dc13 pm13 an13 cd13 ct13), sl13⟩) (q13 : PySem.W.codeIn K cd13 "row_outs" = true) (k13 : PySem.W.keepIn K (.ref f13) = true)
    (a14 : PySem.W.nsIn K mainGlobals "read" = some (some (.ref f14))) (l14 : K.lookup f14 = some ⟨oc14, od14, .func (PySem.W.fnOf "read" "read" (defArgs sread) (defBody sread) (defScope sread) .none kV14 dc14 pm14 an14 cd14 ct14), sl14⟩) (q14 : PySem.W.codeIn K cd14 "read" = true) (k14 : PySem.W.keepIn K (.ref f14) = true)
    (a15 : PySem.W.nsIn K mainGlobals "_law_draw" = some (some (.ref f15))) (l15 : K.lookup f15 = some ⟨oc15, od15, .func (PySem.W.fnOf "_law_draw" "_law_draw" (defArgs slawdraw) (defBody slawdraw) (defScope slawdraw) .none kV15 dc15 pm15 an15 cd15 ct15), sl15⟩) (q15 : PySem.W.codeIn K cd15 "_law_draw" = true) (k15 : PySem.W.keepIn K (.ref f15) = true)
    (a16 : PySem.W.nsIn K mainGlobals "_law_smalls" = some (some (.ref f16))) (l16 : K.lookup f16 = some ⟨oc16, od16, .func (PySem.W.fnOf "_law_smalls" "_law_smalls" (defArgs slawsmalls) (defBody slawsmalls) (defScope slawsmalls) .none kV16 dc16 pm16 an16 cd16 ct16), sl16⟩) (q16 : PySem.W.codeIn K cd16 "_law_smalls" = true) (k16 : PySem.W.keepIn K (.ref f16) = true)
    (a17 : PySem.W.nsIn K mainGlobals "_law_word" = some (some (.ref f17))) (l17 : K.lookup f17 = some ⟨oc17, od17, .func (PySem.W.fnOf "_law_word" "_law_word" (defArgs slawword) (defBody slawword) (defScope slawword) .none kV17 dc17 pm17 an17 cd17 ct17), sl17⟩) (q17 : PySem.W.codeIn K cd17 "_law_word" = true) (k17 : PySem.W.keepIn K (.ref f17) = true)
    (a18 : PySem.W.nsIn K mainGlobals "_law_big" = some (some (.ref f18))) (l18 : K.lookup f18 = some ⟨oc18, od18, .func (PySem.W.fnOf "_law_big" "_law_big" (defArgs slawbig) (defBody slawbig) (defScope slawbig) .none kV18 dc18 pm18 an18 cd18 ct18), sl18⟩) (q18 : PySem.W.codeIn K cd18 "_law_big" = true) (k18 : PySem.W.keepIn K (.ref f18) = true)
    (a19 : PySem.W.nsIn K mainGlobals "_law_made" = some (some (.ref f19))) (l19 : K.lookup f19 = some ⟨oc19, od19, .func (PySem.W.fnOf "_law_made" "_law_made" (defArgs slawmade) (defBody slawmade) (defScope slawmade) .none kV19 dc19 pm19 an19 cd19 ct19), sl19⟩) (q19 : PySem.W.codeIn K cd19 "_law_made" = true) (k19 : PySem.W.keepIn K (.ref f19) = true)
    (a20 : PySem.W.nsIn K mainGlobals "_law_kind" = some (some (.ref f20))) (l20 : K.lookup f20 = some ⟨oc20, od20, .func (PySem.W.fnOf "_law_kind" "_law_kind" (defArgs slawkind) (defBody slawkind) (defScope slawkind) .none kV20 dc20 pm20 an20 cd20 ct20), sl20⟩) (q20 : PySem.W.codeIn K cd20 "_law_kind" = true) (k20 : PySem.W.keepIn K (.ref f20) = true)
    (a21 : PySem.W.nsIn K mainGlobals "_law_spots" = some (some (.ref f21))) (l21 : K.lookup f21 = some ⟨oc21, od21, .func (PySem.W.fnOf "_law_spots" "_law_spots" (defArgs slawspots) (defBody slawspots) (defScope slawspots) .none kV21 dc21 pm21 an21 cd21 ct21), sl21⟩) (q21 : PySem.W.codeIn K cd21 "_law_spots" = true) (k21 : PySem.W.keepIn K (.ref f21) = true)
    (a22 : PySem.W.nsIn K mainGlobals "_law_part" = some (some (.ref f22))) (l22 : K.lookup f22 = some ⟨oc22, od22, .func (PySem.W.fnOf "_law_part" "_law_part" (defArgs slawpart) (defBody slawpart) (defScope slawpart) .none kV22 dc22 pm22 an22 cd22 ct22), sl22⟩) (q22 : PySem.W.codeIn K cd22 "_law_part" = true) (k22 : PySem.W.keepIn K (.ref f22) = true)
    (a23 : PySem.W.nsIn K mainGlobals "_law_row" = some (some (.ref f23))) (l23 : K.lookup f23 = some ⟨oc23, od23, .func (PySem.W.fnOf "_law_row" "_law_row" (defArgs slawrow) (defBody slawrow) (defScope slawrow) .none kV23 dc23 pm23 an23 cd23 ct23), sl23⟩) (q23 : PySem.W.codeIn K cd23 "_law_row" = true) (k23 : PySem.W.keepIn K (.ref f23) = true)
    (a24 : PySem.W.nsIn K mainGlobals "_law_steps" = some (some (.ref f24))) (l24 : K.lookup f24 = some ⟨oc24, od24, .func (PySem.W.fnOf "_law_steps" "_law_steps" (defArgs slawsteps) (defBody slawsteps) (defScope slawsteps) .none kV24 dc24 pm24 an24 cd24 ct24), sl24⟩) (q24 : PySem.W.codeIn K cd24 "_law_steps" = true) (k24 : PySem.W.keepIn K (.ref f24) = true)
    (a25 : PySem.W.nsIn K mainGlobals "_law_program" = some (some (.ref f25))) (l25 : K.lookup f25 = some ⟨oc25, od25, .func (PySem.W.fnOf "_law_program" "_law_program" (defArgs slawprogram) (defBody slawprogram) (defScope slawprogram) .none kV25 dc25 pm25 an25 cd25 ct25), sl25⟩) (q25 : PySem.W.codeIn K cd25 "_law_program" = true) (k25 : PySem.W.keepIn K (.ref f25) = true)
    (a26 : PySem.W.nsIn K mainGlobals "_law_plain_name" = some (some (.ref f26))) (l26 : K.lookup f26 = some ⟨oc26, od26, .func (PySem.W.fnOf "_law_plain_name" "_law_plain_name" (defArgs slawplainname) (defBody slawplainname) (defScope slawplainname) .none kV26 dc26 pm26 an26 cd26 ct26), sl26⟩) (q26 : PySem.W.codeIn K cd26 "_law_plain_name" = true) (k26 : PySem.W.keepIn K (.ref f26) = true)
    (a27 : PySem.W.nsIn K mainGlobals "_law_names" = some (some (.ref f27))) (l27 : K.lookup f27 = some ⟨oc27, od27, .func (PySem.W.fnOf "_law_names" "_law_names" (defArgs slawnames) (defBody slawnames) (defScope slawnames) .none kV27 dc27 pm27 an27 cd27 ct27), sl27⟩) (q27 : PySem.W.codeIn K cd27 "_law_names" = true) (k27 : PySem.W.keepIn K (.ref f27) = true)
    (a28 : PySem.W.nsIn K mainGlobals "_law_rows" = some (some (.ref f28))) (l28 : K.lookup f28 = some ⟨oc28, od28, .func (PySem.W.fnOf "_law_rows" "_law_rows" (defArgs slawrows) (defBody slawrows) (defScope slawrows) .none kV28 dc28 pm28 an28 cd28 ct28), sl28⟩) (q28 : PySem.W.codeIn K cd28 "_law_rows" = true) (k28 : PySem.W.keepIn K (.ref f28) = true)
    {dD29 : Addr}
    (a29 : PySem.W.nsIn K mainGlobals "written" = some (some (.ref f29))) (l29 : K.lookup f29 = some ⟨oc29, od29, .func (PySem.W.fnOf "written" "written" (defArgs swritten) (defBody swritten) (defScope swritten) (.ref dD29) kV29 dc29 pm29 an29 cd29 ct29), sl29⟩) (q29 : PySem.W.codeIn K cd29 "written" = true) (k29 : PySem.W.keepIn K (.ref f29) = true)
    {dO29 : Option Addr} {dN29 : Nat} {dS29 : Array (Option Value)} (ld29 : K.lookup dD29 = some ⟨.type "tuple", dO29, .seq #[.none] dN29, dS29⟩)
    (a30 : PySem.W.nsIn K mainGlobals "_law_alike" = some (some (.ref f30))) (l30 : K.lookup f30 = some ⟨oc30, od30, .func (PySem.W.fnOf "_law_alike" "_law_alike" (defArgs slawalike) (defBody slawalike) (defScope slawalike) .none kV30 dc30 pm30 an30 cd30 ct30), sl30⟩) (q30 : PySem.W.codeIn K cd30 "_law_alike" = true) (k30 : PySem.W.keepIn K (.ref f30) = true)
    (a31 : PySem.W.nsIn K mainGlobals "law" = some (some (.ref f31))) (l31 : K.lookup f31 = some ⟨oc31, od31, .func (PySem.W.fnOf "law" "law" (defArgs slaw) (defBody slaw) (defScope slaw) .none kV31 dc31 pm31 an31 cd31 ct31), sl31⟩) (q31 : PySem.W.codeIn K cd31 "law" = true) (k31 : PySem.W.keepIn K (.ref f31) = true)
    (zstr : PySem.W.nsIn K mainGlobals "str" = some none)
    (zlen : PySem.W.nsIn K mainGlobals "len" = some none)
    (zall : PySem.W.nsIn K mainGlobals "all" = some none)
    (zint : PySem.W.nsIn K mainGlobals "int" = some none)
    (ztuple : PySem.W.nsIn K mainGlobals "tuple" = some none)
    (zlist : PySem.W.nsIn K mainGlobals "list" = some none)
    (zenumerate : PySem.W.nsIn K mainGlobals "enumerate" = some none)
    (zrange : PySem.W.nsIn K mainGlobals "range" = some none)
    (zisinstance : PySem.W.nsIn K mainGlobals "isinstance" = some none)
    (zmax : PySem.W.nsIn K mainGlobals "max" = some none)
    (zsum : PySem.W.nsIn K mainGlobals "sum" = some none)
    (zzip : PySem.W.nsIn K mainGlobals "zip" = some none)
    (zbool : PySem.W.nsIn K mainGlobals "bool" = some none)
    {tLETTERS : Tok} (gLETTERS : PySem.W.nsIn K mainGlobals "LETTERS" = some (some (.str "abcdefghijklmnopqrstuvwxyz" tLETTERS)))
    {tMOST_LETTERS : Tok} (gMOST_LETTERS : PySem.W.nsIn K mainGlobals "MOST_LETTERS" = some (some (.int 8 tMOST_LETTERS)))
    {tFIGURES : Tok} (gFIGURES : PySem.W.nsIn K mainGlobals "FIGURES" = some (some (.str "0123456789" tFIGURES)))
    {tLOW : Tok} (gLOW : PySem.W.nsIn K mainGlobals "LOW" = some (some (.int (-9223372036854775808) tLOW)))
    {tHIGH : Tok} (gHIGH : PySem.W.nsIn K mainGlobals "HIGH" = some (some (.int 9223372036854775807 tHIGH)))
    {tMOST_SIDES_WRITTEN : Tok} (gMOST_SIDES_WRITTEN : PySem.W.nsIn K mainGlobals "MOST_SIDES_WRITTEN" = some (some (.int 8 tMOST_SIDES_WRITTEN)))
    {tMOST_OUTS : Tok} (gMOST_OUTS : PySem.W.nsIn K mainGlobals "MOST_OUTS" = some (some (.int 8 tMOST_OUTS)))
    {tMOST_STEPS : Tok} (gMOST_STEPS : PySem.W.nsIn K mainGlobals "MOST_STEPS" = some (some (.int 40 tMOST_STEPS)))
    {dPT : Addr} {nPT : Nat} {tP0 tP1 tP2 tP3 tP4 tP5 tP6 tP7 tP8 tP9 tP10 tP11 tP12 tP13 tP14 : Tok} {aP0 aP1 aP2 aP3 aP4 aP5 aP6 aP7 aP8 aP9 aP10 aP11 aP12 aP13 aP14 : Addr}
    (gPT : PySem.W.nsIn K mainGlobals "PARTS" = some (some (.ref dPT))) (dPT0 : (dPT == sysModules) = false)
    (lPT : K.lookup dPT = some { cls := .type "dict", data := .dict #[⟨PyData.keyHash w.params "in", .str "in" tP0, .ref aP0⟩, ⟨PyData.keyHash w.params "num", .str "num" tP1, .ref aP1⟩, ⟨PyData.keyHash w.params "count", .str "count" tP2, .ref aP2⟩, ⟨PyData.keyHash w.params "each", .str "each" tP3, .ref aP3⟩, ⟨PyData.keyHash w.params "pair", .str "pair" tP4, .ref aP4⟩, ⟨PyData.keyHash w.params "pick", .str "pick" tP5, .ref aP5⟩, ⟨PyData.keyHash w.params "turn", .str "turn" tP6, .ref aP6⟩, ⟨PyData.keyHash w.params "flip", .str "flip" tP7, .ref aP7⟩, ⟨PyData.keyHash w.params "cut", .str "cut" tP8, .ref aP8⟩, ⟨PyData.keyHash w.params "spread", .str "spread" tP9, .ref aP9⟩, ⟨PyData.keyHash w.params "lay", .str "lay" tP10, .ref aP10⟩, ⟨PyData.keyHash w.params "join", .str "join" tP11, .ref aP11⟩, ⟨PyData.keyHash w.params "fetch", .str "fetch" tP12, .ref aP12⟩, ⟨PyData.keyHash w.params "fold", .str "fold" tP13, .ref aP13⟩, ⟨PyData.keyHash w.params "run", .str "run" tP14, .ref aP14⟩] nPT })
    {odP0 : Option Addr} {nP0 : Nat} {slP0 : Array (Option Value)} {aP0_0 : Addr} (lP0 : K.lookup aP0 = some ⟨.type "tuple", odP0, .seq #[.ref aP0_0] nP0, slP0⟩)
    {odP0_0 : Option Addr} {nP0_0 : Nat} {slP0_0 : Array (Option Value)} {tP0_0 uP0_0 : Tok} (lP0_0 : K.lookup aP0_0 = some ⟨.type "tuple", odP0_0, .seq #[.str "sides" tP0_0, .int 1 uP0_0] nP0_0, slP0_0⟩)
    {odP1 : Option Addr} {nP1 : Nat} {slP1 : Array (Option Value)} {aP1_0 : Addr} (lP1 : K.lookup aP1 = some ⟨.type "tuple", odP1, .seq #[.ref aP1_0] nP1, slP1⟩)
    {odP1_0 : Option Addr} {nP1_0 : Nat} {slP1_0 : Array (Option Value)} {tP1_0 uP1_0 : Tok} (lP1_0 : K.lookup aP1_0 = some ⟨.type "tuple", odP1_0, .seq #[.str "number" tP1_0, .int 1 uP1_0] nP1_0, slP1_0⟩)
    {odP2 : Option Addr} {nP2 : Nat} {slP2 : Array (Option Value)} {aP2_0 aP2_1 : Addr} (lP2 : K.lookup aP2 = some ⟨.type "tuple", odP2, .seq #[.ref aP2_0, .ref aP2_1] nP2, slP2⟩)
    {odP2_0 : Option Addr} {nP2_0 : Nat} {slP2_0 : Array (Option Value)} {tP2_0 uP2_0 : Tok} (lP2_0 : K.lookup aP2_0 = some ⟨.type "tuple", odP2_0, .seq #[.str "small" tP2_0, .int 2 uP2_0] nP2_0, slP2_0⟩)
    {odP2_1 : Option Addr} {nP2_1 : Nat} {slP2_1 : Array (Option Value)} {tP2_1 uP2_1 : Tok} (lP2_1 : K.lookup aP2_1 = some ⟨.type "tuple", odP2_1, .seq #[.str "sides" tP2_1, .int 1 uP2_1] nP2_1, slP2_1⟩)
    {odP3 : Option Addr} {nP3 : Nat} {slP3 : Array (Option Value)} {aP3_0 aP3_1 : Addr} (lP3 : K.lookup aP3 = some ⟨.type "tuple", odP3, .seq #[.ref aP3_0, .ref aP3_1] nP3, slP3⟩)
    {odP3_0 : Option Addr} {nP3_0 : Nat} {slP3_0 : Array (Option Value)} {tP3_0 uP3_0 : Tok} (lP3_0 : K.lookup aP3_0 = some ⟨.type "tuple", odP3_0, .seq #[.str "word" tP3_0, .int 1 uP3_0] nP3_0, slP3_0⟩)
    {odP3_1 : Option Addr} {nP3_1 : Nat} {slP3_1 : Array (Option Value)} {tP3_1 uP3_1 : Tok} (lP3_1 : K.lookup aP3_1 = some ⟨.type "tuple", odP3_1, .seq #[.str "step" tP3_1, .int 2 uP3_1] nP3_1, slP3_1⟩)
    {odP4 : Option Addr} {nP4 : Nat} {slP4 : Array (Option Value)} {aP4_0 aP4_1 aP4_2 : Addr} (lP4 : K.lookup aP4 = some ⟨.type "tuple", odP4, .seq #[.ref aP4_0, .ref aP4_1, .ref aP4_2] nP4, slP4⟩)
    {odP4_0 : Option Addr} {nP4_0 : Nat} {slP4_0 : Array (Option Value)} {tP4_0 uP4_0 : Tok} (lP4_0 : K.lookup aP4_0 = some ⟨.type "tuple", odP4_0, .seq #[.str "word" tP4_0, .int 1 uP4_0] nP4_0, slP4_0⟩)
    {odP4_1 : Option Addr} {nP4_1 : Nat} {slP4_1 : Array (Option Value)} {tP4_1 uP4_1 : Tok} (lP4_1 : K.lookup aP4_1 = some ⟨.type "tuple", odP4_1, .seq #[.str "step" tP4_1, .int 2 uP4_1] nP4_1, slP4_1⟩)
    {odP4_2 : Option Addr} {nP4_2 : Nat} {slP4_2 : Array (Option Value)} {tP4_2 uP4_2 : Tok} (lP4_2 : K.lookup aP4_2 = some ⟨.type "tuple", odP4_2, .seq #[.str "step" tP4_2, .int 3 uP4_2] nP4_2, slP4_2⟩)
    {odP5 : Option Addr} {nP5 : Nat} {slP5 : Array (Option Value)} {aP5_0 aP5_1 aP5_2 : Addr} (lP5 : K.lookup aP5 = some ⟨.type "tuple", odP5, .seq #[.ref aP5_0, .ref aP5_1, .ref aP5_2] nP5, slP5⟩)
    {odP5_0 : Option Addr} {nP5_0 : Nat} {slP5_0 : Array (Option Value)} {tP5_0 uP5_0 : Tok} (lP5_0 : K.lookup aP5_0 = some ⟨.type "tuple", odP5_0, .seq #[.str "step" tP5_0, .int 1 uP5_0] nP5_0, slP5_0⟩)
    {odP5_1 : Option Addr} {nP5_1 : Nat} {slP5_1 : Array (Option Value)} {tP5_1 uP5_1 : Tok} (lP5_1 : K.lookup aP5_1 = some ⟨.type "tuple", odP5_1, .seq #[.str "step" tP5_1, .int 2 uP5_1] nP5_1, slP5_1⟩)
    {odP5_2 : Option Addr} {nP5_2 : Nat} {slP5_2 : Array (Option Value)} {tP5_2 uP5_2 : Tok} (lP5_2 : K.lookup aP5_2 = some ⟨.type "tuple", odP5_2, .seq #[.str "step" tP5_2, .int 3 uP5_2] nP5_2, slP5_2⟩)
    {odP6 : Option Addr} {nP6 : Nat} {slP6 : Array (Option Value)} {aP6_0 aP6_1 : Addr} (lP6 : K.lookup aP6 = some ⟨.type "tuple", odP6, .seq #[.ref aP6_0, .ref aP6_1] nP6, slP6⟩)
    {odP6_0 : Option Addr} {nP6_0 : Nat} {slP6_0 : Array (Option Value)} {tP6_0 uP6_0 : Tok} (lP6_0 : K.lookup aP6_0 = some ⟨.type "tuple", odP6_0, .seq #[.str "step" tP6_0, .int 1 uP6_0] nP6_0, slP6_0⟩)
    {odP6_1 : Option Addr} {nP6_1 : Nat} {slP6_1 : Array (Option Value)} {tP6_1 uP6_1 : Tok} (lP6_1 : K.lookup aP6_1 = some ⟨.type "tuple", odP6_1, .seq #[.str "sides" tP6_1, .int 2 uP6_1] nP6_1, slP6_1⟩)
    {odP7 : Option Addr} {nP7 : Nat} {slP7 : Array (Option Value)} {aP7_0 aP7_1 : Addr} (lP7 : K.lookup aP7 = some ⟨.type "tuple", odP7, .seq #[.ref aP7_0, .ref aP7_1] nP7, slP7⟩)
    {odP7_0 : Option Addr} {nP7_0 : Nat} {slP7_0 : Array (Option Value)} {tP7_0 uP7_0 : Tok} (lP7_0 : K.lookup aP7_0 = some ⟨.type "tuple", odP7_0, .seq #[.str "step" tP7_0, .int 1 uP7_0] nP7_0, slP7_0⟩)
    {odP7_1 : Option Addr} {nP7_1 : Nat} {slP7_1 : Array (Option Value)} {tP7_1 uP7_1 : Tok} (lP7_1 : K.lookup aP7_1 = some ⟨.type "tuple", odP7_1, .seq #[.str "small" tP7_1, .int 2 uP7_1] nP7_1, slP7_1⟩)
    {odP8 : Option Addr} {nP8 : Nat} {slP8 : Array (Option Value)} {aP8_0 aP8_1 aP8_2 aP8_3 aP8_4 : Addr} (lP8 : K.lookup aP8 = some ⟨.type "tuple", odP8, .seq #[.ref aP8_0, .ref aP8_1, .ref aP8_2, .ref aP8_3, .ref aP8_4] nP8, slP8⟩)
    {odP8_0 : Option Addr} {nP8_0 : Nat} {slP8_0 : Array (Option Value)} {tP8_0 uP8_0 : Tok} (lP8_0 : K.lookup aP8_0 = some ⟨.type "tuple", odP8_0, .seq #[.str "step" tP8_0, .int 1 uP8_0] nP8_0, slP8_0⟩)
    {odP8_1 : Option Addr} {nP8_1 : Nat} {slP8_1 : Array (Option Value)} {tP8_1 uP8_1 : Tok} (lP8_1 : K.lookup aP8_1 = some ⟨.type "tuple", odP8_1, .seq #[.str "small" tP8_1, .int 2 uP8_1] nP8_1, slP8_1⟩)
    {odP8_2 : Option Addr} {nP8_2 : Nat} {slP8_2 : Array (Option Value)} {tP8_2 uP8_2 : Tok} (lP8_2 : K.lookup aP8_2 = some ⟨.type "tuple", odP8_2, .seq #[.str "small" tP8_2, .int 3 uP8_2] nP8_2, slP8_2⟩)
    {odP8_3 : Option Addr} {nP8_3 : Nat} {slP8_3 : Array (Option Value)} {tP8_3 uP8_3 : Tok} (lP8_3 : K.lookup aP8_3 = some ⟨.type "tuple", odP8_3, .seq #[.str "small" tP8_3, .int 4 uP8_3] nP8_3, slP8_3⟩)
    {odP8_4 : Option Addr} {nP8_4 : Nat} {slP8_4 : Array (Option Value)} {tP8_4 uP8_4 : Tok} (lP8_4 : K.lookup aP8_4 = some ⟨.type "tuple", odP8_4, .seq #[.str "small" tP8_4, .int 5 uP8_4] nP8_4, slP8_4⟩)
    {odP9 : Option Addr} {nP9 : Nat} {slP9 : Array (Option Value)} {aP9_0 aP9_1 aP9_2 : Addr} (lP9 : K.lookup aP9 = some ⟨.type "tuple", odP9, .seq #[.ref aP9_0, .ref aP9_1, .ref aP9_2] nP9, slP9⟩)
    {odP9_0 : Option Addr} {nP9_0 : Nat} {slP9_0 : Array (Option Value)} {tP9_0 uP9_0 : Tok} (lP9_0 : K.lookup aP9_0 = some ⟨.type "tuple", odP9_0, .seq #[.str "step" tP9_0, .int 1 uP9_0] nP9_0, slP9_0⟩)
    {odP9_1 : Option Addr} {nP9_1 : Nat} {slP9_1 : Array (Option Value)} {tP9_1 uP9_1 : Tok} (lP9_1 : K.lookup aP9_1 = some ⟨.type "tuple", odP9_1, .seq #[.str "small" tP9_1, .int 2 uP9_1] nP9_1, slP9_1⟩)
    {odP9_2 : Option Addr} {nP9_2 : Nat} {slP9_2 : Array (Option Value)} {tP9_2 uP9_2 : Tok} (lP9_2 : K.lookup aP9_2 = some ⟨.type "tuple", odP9_2, .seq #[.str "small" tP9_2, .int 3 uP9_2] nP9_2, slP9_2⟩)
    {odP10 : Option Addr} {nP10 : Nat} {slP10 : Array (Option Value)} {aP10_0 aP10_1 : Addr} (lP10 : K.lookup aP10 = some ⟨.type "tuple", odP10, .seq #[.ref aP10_0, .ref aP10_1] nP10, slP10⟩)
    {odP10_0 : Option Addr} {nP10_0 : Nat} {slP10_0 : Array (Option Value)} {tP10_0 uP10_0 : Tok} (lP10_0 : K.lookup aP10_0 = some ⟨.type "tuple", odP10_0, .seq #[.str "step" tP10_0, .int 1 uP10_0] nP10_0, slP10_0⟩)
    {odP10_1 : Option Addr} {nP10_1 : Nat} {slP10_1 : Array (Option Value)} {tP10_1 uP10_1 : Tok} (lP10_1 : K.lookup aP10_1 = some ⟨.type "tuple", odP10_1, .seq #[.str "sides" tP10_1, .int 2 uP10_1] nP10_1, slP10_1⟩)
    {odP11 : Option Addr} {nP11 : Nat} {slP11 : Array (Option Value)} {aP11_0 aP11_1 aP11_2 : Addr} (lP11 : K.lookup aP11 = some ⟨.type "tuple", odP11, .seq #[.ref aP11_0, .ref aP11_1, .ref aP11_2] nP11, slP11⟩)
    {odP11_0 : Option Addr} {nP11_0 : Nat} {slP11_0 : Array (Option Value)} {tP11_0 uP11_0 : Tok} (lP11_0 : K.lookup aP11_0 = some ⟨.type "tuple", odP11_0, .seq #[.str "step" tP11_0, .int 1 uP11_0] nP11_0, slP11_0⟩)
    {odP11_1 : Option Addr} {nP11_1 : Nat} {slP11_1 : Array (Option Value)} {tP11_1 uP11_1 : Tok} (lP11_1 : K.lookup aP11_1 = some ⟨.type "tuple", odP11_1, .seq #[.str "step" tP11_1, .int 2 uP11_1] nP11_1, slP11_1⟩)
    {odP11_2 : Option Addr} {nP11_2 : Nat} {slP11_2 : Array (Option Value)} {tP11_2 uP11_2 : Tok} (lP11_2 : K.lookup aP11_2 = some ⟨.type "tuple", odP11_2, .seq #[.str "small" tP11_2, .int 3 uP11_2] nP11_2, slP11_2⟩)
    {odP12 : Option Addr} {nP12 : Nat} {slP12 : Array (Option Value)} {aP12_0 aP12_1 : Addr} (lP12 : K.lookup aP12 = some ⟨.type "tuple", odP12, .seq #[.ref aP12_0, .ref aP12_1] nP12, slP12⟩)
    {odP12_0 : Option Addr} {nP12_0 : Nat} {slP12_0 : Array (Option Value)} {tP12_0 uP12_0 : Tok} (lP12_0 : K.lookup aP12_0 = some ⟨.type "tuple", odP12_0, .seq #[.str "step" tP12_0, .int 1 uP12_0] nP12_0, slP12_0⟩)
    {odP12_1 : Option Addr} {nP12_1 : Nat} {slP12_1 : Array (Option Value)} {tP12_1 uP12_1 : Tok} (lP12_1 : K.lookup aP12_1 = some ⟨.type "tuple", odP12_1, .seq #[.str "step" tP12_1, .int 2 uP12_1] nP12_1, slP12_1⟩)
    {odP13 : Option Addr} {nP13 : Nat} {slP13 : Array (Option Value)} {aP13_0 aP13_1 aP13_2 : Addr} (lP13 : K.lookup aP13 = some ⟨.type "tuple", odP13, .seq #[.ref aP13_0, .ref aP13_1, .ref aP13_2] nP13, slP13⟩)
    {odP13_0 : Option Addr} {nP13_0 : Nat} {slP13_0 : Array (Option Value)} {tP13_0 uP13_0 : Tok} (lP13_0 : K.lookup aP13_0 = some ⟨.type "tuple", odP13_0, .seq #[.str "word" tP13_0, .int 1 uP13_0] nP13_0, slP13_0⟩)
    {odP13_1 : Option Addr} {nP13_1 : Nat} {slP13_1 : Array (Option Value)} {tP13_1 uP13_1 : Tok} (lP13_1 : K.lookup aP13_1 = some ⟨.type "tuple", odP13_1, .seq #[.str "step" tP13_1, .int 2 uP13_1] nP13_1, slP13_1⟩)
    {odP13_2 : Option Addr} {nP13_2 : Nat} {slP13_2 : Array (Option Value)} {tP13_2 uP13_2 : Tok} (lP13_2 : K.lookup aP13_2 = some ⟨.type "tuple", odP13_2, .seq #[.str "small" tP13_2, .int 3 uP13_2] nP13_2, slP13_2⟩)
    {odP14 : Option Addr} {nP14 : Nat} {slP14 : Array (Option Value)} {aP14_0 aP14_1 aP14_2 : Addr} (lP14 : K.lookup aP14 = some ⟨.type "tuple", odP14, .seq #[.ref aP14_0, .ref aP14_1, .ref aP14_2] nP14, slP14⟩)
    {odP14_0 : Option Addr} {nP14_0 : Nat} {slP14_0 : Array (Option Value)} {tP14_0 uP14_0 : Tok} (lP14_0 : K.lookup aP14_0 = some ⟨.type "tuple", odP14_0, .seq #[.str "word" tP14_0, .int 1 uP14_0] nP14_0, slP14_0⟩)
    {odP14_1 : Option Addr} {nP14_1 : Nat} {slP14_1 : Array (Option Value)} {tP14_1 uP14_1 : Tok} (lP14_1 : K.lookup aP14_1 = some ⟨.type "tuple", odP14_1, .seq #[.str "step" tP14_1, .int 2 uP14_1] nP14_1, slP14_1⟩)
    {odP14_2 : Option Addr} {nP14_2 : Nat} {slP14_2 : Array (Option Value)} {tP14_2 uP14_2 : Tok} (lP14_2 : K.lookup aP14_2 = some ⟨.type "tuple", odP14_2, .seq #[.str "small" tP14_2, .int 3 uP14_2] nP14_2, slP14_2⟩)
    : ∃ fd : FuncData, (∀ (s : Shared) (v : Value), BindsTo s fd ⟨[v], []⟩ [("script", v)]) ∧ ∀ base : Heap, K.In base → base.Ns mainGlobals mg → FnOk l.prog w K mg base CX0 8 fa fd ["script"] (splaw K) := by
  have e := hfa.symm.trans (PySem.W.mg_of X G a31)
  cases e
  have TP : PartsOk l.prog w K dPT := ⟨_, KTab.mk (l := [("in", tP0, aP0), ("num", tP1, aP1), ("count", tP2, aP2), ("each", tP3, aP3), ("pair", tP4, aP4), ("pick", tP5, aP5), ("turn", tP6, aP6), ("flip", tP7, aP7), ("cut", tP8, aP8), ("spread", tP9, aP9), ("lay", tP10, aP10), ("join", tP11, aP11), ("fetch", tP12, aP12), ("fold", tP13, aP13), ("run", tP14, aP14)]) dPT0 lPT rfl (show (["in", "num", "count", "each", "pair", "pick", "turn", "flip", "cut", "spread", "lay", "join", "fetch", "fold", "run"] : List Str).Nodup by decide +kernel), ⟨⟨rfl, _, ktup_of (xs := [.ref aP0_0]) lP0 (small (show (1 : Nat) ≤ 1000 by decide)) (.cons rfl (.nil)), ⟨⟨_, rfl, ktup_of lP0_0 (small (show (2 : Nat) ≤ 1000 by decide)) (.cons ⟨_, rfl⟩ (.cons ⟨_, rfl⟩ .nil))⟩, trivial⟩⟩, ⟨⟨rfl, _, ktup_of (xs := [.ref aP1_0]) lP1 (small (show (1 : Nat) ≤ 1000 by decide)) (.cons rfl (.nil)), ⟨⟨_, rfl, ktup_of lP1_0 (small (show (2 : Nat) ≤ 1000 by decide)) (.cons ⟨_, rfl⟩ (.cons ⟨_, rfl⟩ .nil))⟩, trivial⟩⟩, ⟨⟨rfl, _, ktup_of (xs := [.ref aP2_0, .ref aP2_1]) lP2 (small (show (2 : Nat) ≤ 1000 by decide)) (.cons rfl (.cons rfl (.nil))), ⟨⟨_, rfl, ktup_of lP2_0 (small (show (2 : Nat) ≤ 1000 by decide)) (.cons ⟨_, rfl⟩ (.cons ⟨_, rfl⟩ .nil))⟩, ⟨⟨_, rfl, ktup_of lP2_1 (small (show (2 : Nat) ≤ 1000 by decide)) (.cons ⟨_, rfl⟩ (.cons ⟨_, rfl⟩ .nil))⟩, trivial⟩⟩⟩, ⟨⟨rfl, _, ktup_of (xs := [.ref aP3_0, .ref aP3_1]) lP3 (small (show (2 : Nat) ≤ 1000 by decide)) (.cons rfl (.cons rfl (.nil))), ⟨⟨_, rfl, ktup_of lP3_0 (small (show (2 : Nat) ≤ 1000 by decide)) (.cons ⟨_, rfl⟩ (.cons ⟨_, rfl⟩ .nil))⟩, ⟨⟨_, rfl, ktup_of lP3_1 (small (show (2 : Nat) ≤ 1000 by decide)) (.cons ⟨_, rfl⟩ (.cons ⟨_, rfl⟩ .nil))⟩, trivial⟩⟩⟩, ⟨⟨rfl, _, ktup_of (xs := [.ref aP4_0, .ref aP4_1, .ref aP4_2]) lP4 (small (show (3 : Nat) ≤ 1000 by decide)) (.cons rfl (.cons rfl (.cons rfl (.nil)))), ⟨⟨_, rfl, ktup_of lP4_0 (small (show (2 : Nat) ≤ 1000 by decide)) (.cons ⟨_, rfl⟩ (.cons ⟨_, rfl⟩ .nil))⟩, ⟨⟨_, rfl, ktup_of lP4_1 (small (show (2 : Nat) ≤ 1000 by decide)) (.cons ⟨_, rfl⟩ (.cons ⟨_, rfl⟩ .nil))⟩, ⟨⟨_, rfl, ktup_of lP4_2 (small (show (2 : Nat) ≤ 1000 by decide)) (.cons ⟨_, rfl⟩ (.cons ⟨_, rfl⟩ .nil))⟩, trivial⟩⟩⟩⟩, ⟨⟨rfl, _, ktup_of (xs := [.ref aP5_0, .ref aP5_1, .ref aP5_2]) lP5 (small (show (3 : Nat) ≤ 1000 by decide)) (.cons rfl (.cons rfl (.cons rfl (.nil)))), ⟨⟨_, rfl, ktup_of lP5_0 (small (show (2 : Nat) ≤ 1000 by decide)) (.cons ⟨_, rfl⟩ (.cons ⟨_, rfl⟩ .nil))⟩, ⟨⟨_, rfl, ktup_of lP5_1 (small (show (2 : Nat) ≤ 1000 by decide)) (.cons ⟨_, rfl⟩ (.cons ⟨_, rfl⟩ .nil))⟩, ⟨⟨_, rfl, ktup_of lP5_2 (small (show (2 : Nat) ≤ 1000 by decide)) (.cons ⟨_, rfl⟩ (.cons ⟨_, rfl⟩ .nil))⟩, trivial⟩⟩⟩⟩, ⟨⟨rfl, _, ktup_of (xs := [.ref aP6_0, .ref aP6_1]) lP6 (small (show (2 : Nat) ≤ 1000 by decide)) (.cons rfl (.cons rfl (.nil))), ⟨⟨_, rfl, ktup_of lP6_0 (small (show (2 : Nat) ≤ 1000 by decide)) (.cons ⟨_, rfl⟩ (.cons ⟨_, rfl⟩ .nil))⟩, ⟨⟨_, rfl, ktup_of lP6_1 (small (show (2 : Nat) ≤ 1000 by decide)) (.cons ⟨_, rfl⟩ (.cons ⟨_, rfl⟩ .nil))⟩, trivial⟩⟩⟩, ⟨⟨rfl, _, ktup_of (xs := [.ref aP7_0, .ref aP7_1]) lP7 (small (show (2 : Nat) ≤ 1000 by decide)) (.cons rfl (.cons rfl (.nil))), ⟨⟨_, rfl, ktup_of lP7_0 (small (show (2 : Nat) ≤ 1000 by decide)) (.cons ⟨_, rfl⟩ (.cons ⟨_, rfl⟩ .nil))⟩, ⟨⟨_, rfl, ktup_of lP7_1 (small (show (2 : Nat) ≤ 1000 by decide)) (.cons ⟨_, rfl⟩ (.cons ⟨_, rfl⟩ .nil))⟩, trivial⟩⟩⟩, ⟨⟨rfl, _, ktup_of (xs := [.ref aP8_0, .ref aP8_1, .ref aP8_2, .ref aP8_3, .ref aP8_4]) lP8 (small (show (5 : Nat) ≤ 1000 by decide)) (.cons rfl (.cons rfl (.cons rfl (.cons rfl (.cons rfl (.nil)))))), ⟨⟨_, rfl, ktup_of lP8_0 (small (show (2 : Nat) ≤ 1000 by decide)) (.cons ⟨_, rfl⟩ (.cons ⟨_, rfl⟩ .nil))⟩, ⟨⟨_, rfl, ktup_of lP8_1 (small (show (2 : Nat) ≤ 1000 by decide)) (.cons ⟨_, rfl⟩ (.cons ⟨_, rfl⟩ .nil))⟩, ⟨⟨_, rfl, ktup_of lP8_2 (small (show (2 : Nat) ≤ 1000 by decide)) (.cons ⟨_, rfl⟩ (.cons ⟨_, rfl⟩ .nil))⟩, ⟨⟨_, rfl, ktup_of lP8_3 (small (show (2 : Nat) ≤ 1000 by decide)) (.cons ⟨_, rfl⟩ (.cons ⟨_, rfl⟩ .nil))⟩, ⟨⟨_, rfl, ktup_of lP8_4 (small (show (2 : Nat) ≤ 1000 by decide)) (.cons ⟨_, rfl⟩ (.cons ⟨_, rfl⟩ .nil))⟩, trivial⟩⟩⟩⟩⟩⟩, ⟨⟨rfl, _, ktup_of (xs := [.ref aP9_0, .ref aP9_1, .ref aP9_2]) lP9 (small (show (3 : Nat) ≤ 1000 by decide)) (.cons rfl (.cons rfl (.cons rfl (.nil)))), ⟨⟨_, rfl, ktup_of lP9_0 (small (show (2 : Nat) ≤ 1000 by decide)) (.cons ⟨_, rfl⟩ (.cons ⟨_, rfl⟩ .nil))⟩, ⟨⟨_, rfl, ktup_of lP9_1 (small (show (2 : Nat) ≤ 1000 by decide)) (.cons ⟨_, rfl⟩ (.cons ⟨_, rfl⟩ .nil))⟩, ⟨⟨_, rfl, ktup_of lP9_2 (small (show (2 : Nat) ≤ 1000 by decide)) (.cons ⟨_, rfl⟩ (.cons ⟨_, rfl⟩ .nil))⟩, trivial⟩⟩⟩⟩, ⟨⟨rfl, _, ktup_of (xs := [.ref aP10_0, .ref aP10_1]) lP10 (small (show (2 : Nat) ≤ 1000 by decide)) (.cons rfl (.cons rfl (.nil))), ⟨⟨_, rfl, ktup_of lP10_0 (small (show (2 : Nat) ≤ 1000 by decide)) (.cons ⟨_, rfl⟩ (.cons ⟨_, rfl⟩ .nil))⟩, ⟨⟨_, rfl, ktup_of lP10_1 (small (show (2 : Nat) ≤ 1000 by decide)) (.cons ⟨_, rfl⟩ (.cons ⟨_, rfl⟩ .nil))⟩, trivial⟩⟩⟩, ⟨⟨rfl, _, ktup_of (xs := [.ref aP11_0, .ref aP11_1, .ref aP11_2]) lP11 (small (show (3 : Nat) ≤ 1000 by decide)) (.cons rfl (.cons rfl (.cons rfl (.nil)))), ⟨⟨_, rfl, ktup_of lP11_0 (small (show (2 : Nat) ≤ 1000 by decide)) (.cons ⟨_, rfl⟩ (.cons ⟨_, rfl⟩ .nil))⟩, ⟨⟨_, rfl, ktup_of lP11_1 (small (show (2 : Nat) ≤ 1000 by decide)) (.cons ⟨_, rfl⟩ (.cons ⟨_, rfl⟩ .nil))⟩, ⟨⟨_, rfl, ktup_of lP11_2 (small (show (2 : Nat) ≤ 1000 by decide)) (.cons ⟨_, rfl⟩ (.cons ⟨_, rfl⟩ .nil))⟩, trivial⟩⟩⟩⟩, ⟨⟨rfl, _, ktup_of (xs := [.ref aP12_0, .ref aP12_1]) lP12 (small (show (2 : Nat) ≤ 1000 by decide)) (.cons rfl (.cons rfl (.nil))), ⟨⟨_, rfl, ktup_of lP12_0 (small (show (2 : Nat) ≤ 1000 by decide)) (.cons ⟨_, rfl⟩ (.cons ⟨_, rfl⟩ .nil))⟩, ⟨⟨_, rfl, ktup_of lP12_1 (small (show (2 : Nat) ≤ 1000 by decide)) (.cons ⟨_, rfl⟩ (.cons ⟨_, rfl⟩ .nil))⟩, trivial⟩⟩⟩, ⟨⟨rfl, _, ktup_of (xs := [.ref aP13_0, .ref aP13_1, .ref aP13_2]) lP13 (small (show (3 : Nat) ≤ 1000 by decide)) (.cons rfl (.cons rfl (.cons rfl (.nil)))), ⟨⟨_, rfl, ktup_of lP13_0 (small (show (2 : Nat) ≤ 1000 by decide)) (.cons ⟨_, rfl⟩ (.cons ⟨_, rfl⟩ .nil))⟩, ⟨⟨_, rfl, ktup_of lP13_1 (small (show (2 : Nat) ≤ 1000 by decide)) (.cons ⟨_, rfl⟩ (.cons ⟨_, rfl⟩ .nil))⟩, ⟨⟨_, rfl, ktup_of lP13_2 (small (show (2 : Nat) ≤ 1000 by decide)) (.cons ⟨_, rfl⟩ (.cons ⟨_, rfl⟩ .nil))⟩, trivial⟩⟩⟩⟩, ⟨⟨rfl, _, ktup_of (xs := [.ref aP14_0, .ref aP14_1, .ref aP14_2]) lP14 (small (show (3 : Nat) ≤ 1000 by decide)) (.cons rfl (.cons rfl (.cons rfl (.nil)))), ⟨⟨_, rfl, ktup_of lP14_0 (small (show (2 : Nat) ≤ 1000 by decide)) (.cons ⟨_, rfl⟩ (.cons ⟨_, rfl⟩ .nil))⟩, ⟨⟨_, rfl, ktup_of lP14_1 (small (show (2 : Nat) ≤ 1000 by decide)) (.cons ⟨_, rfl⟩ (.cons ⟨_, rfl⟩ .nil))⟩, ⟨⟨_, rfl, ktup_of lP14_2 (small (show (2 : Nat) ≤ 1000 by decide)) (.cons ⟨_, rfl⟩ (.cons ⟨_, rfl⟩ .nil))⟩, trivial⟩⟩⟩⟩, trivial⟩⟩⟩⟩⟩⟩⟩⟩⟩⟩⟩⟩⟩⟩⟩⟩
  have F0 := fun_mk (st := spartsof) l0 q0 k0
  have b0 := F0.binds (ps := ["form"]) fun _ _ _ _ _ _ us hl => by
    obtain ⟨_, rfl⟩ := us_len1 hl
    rfl
  have F1 := fun_mk (st := spartwords) l1 q1 k1
  have b1 := F1.binds (ps := ["kind", "part", "names"]) fun _ _ _ _ _ _ us hl => by
    obtain ⟨_, _, _, rfl⟩ := us_len3 hl
    rfl
  have F2 := fun_mk (st := ssteprow) l2 q2 k2
  have b2 := F2.binds (ps := ["name", "step", "names"]) fun _ _ _ _ _ _ us hl => by
    obtain ⟨_, _, _, rfl⟩ := us_len3 hl
    rfl
  have F3 := fun_mk (st := sisform) l3 q3 k3
  have b3 := F3.binds (ps := ["word"]) fun _ _ _ _ _ _ us hl => by
    obtain ⟨_, rfl⟩ := us_len1 hl
    rfl
  have F4 := fun_mk (st := sismadeof) l4 q4 k4
  have b4 := F4.binds (ps := ["word", "signs", "most"]) fun _ _ _ _ _ _ us hl => by
    obtain ⟨_, _, _, rfl⟩ := us_len3 hl
    rfl
  have F5 := fun_mk (st := sisname) l5 q5 k5
  have b5 := F5.binds (ps := ["word"]) fun _ _ _ _ _ _ us hl => by
    obtain ⟨_, rfl⟩ := us_len1 hl
    rfl
  have F6 := fun_mk (st := sfiguresof) l6 q6 k6
  have b6 := F6.binds (ps := ["word", "most"]) fun _ _ _ _ _ _ us hl => by
    obtain ⟨_, _, rfl⟩ := us_len2 hl
    rfl
  have F7 := fun_mk (st := ssmallof) l7 q7 k7
  have b7 := F7.binds (ps := ["word"]) fun _ _ _ _ _ _ us hl => by
    obtain ⟨_, rfl⟩ := us_len1 hl
    rfl
  have F8 := fun_mk (st := snumberof) l8 q8 k8
  have b8 := F8.binds (ps := ["word"]) fun _ _ _ _ _ _ us hl => by
    obtain ⟨_, rfl⟩ := us_len1 hl
    rfl
  have F9 := fun_mk (st := ssmallsof) l9 q9 k9
  have b9 := F9.binds (ps := ["words"]) fun _ _ _ _ _ _ us hl => by
    obtain ⟨_, rfl⟩ := us_len1 hl
    rfl
  have F10 := fun_mk (st := spartof) l10 q10 k10
  have b10 := F10.binds (ps := ["kind", "word", "known"]) fun _ _ _ _ _ _ us hl => by
    obtain ⟨_, _, _, rfl⟩ := us_len3 hl
    rfl
  have F11 := fun_mk (st := sstepof) l11 q11 k11
  have b11 := F11.binds (ps := ["form", "words", "known"]) fun _ _ _ _ _ _ us hl => by
    obtain ⟨_, _, _, rfl⟩ := us_len3 hl
    rfl
  have F12 := fun_mk (st := srowstep) l12 q12 k12
  have b12 := F12.binds (ps := ["words", "known"]) fun _ _ _ _ _ _ us hl => by
    obtain ⟨_, _, rfl⟩ := us_len2 hl
    rfl
  have F13 := fun_mk (st := srowouts) l13 q13 k13
  have b13 := F13.binds (ps := ["words", "known"]) fun _ _ _ _ _ _ us hl => by
    obtain ⟨_, _, rfl⟩ := us_len2 hl
    rfl
  have F14 := fun_mk (st := sread) l14 q14 k14
  have b14 := F14.binds (ps := ["text"]) fun _ _ _ _ _ _ us hl => by
    obtain ⟨_, rfl⟩ := us_len1 hl
    rfl
  have F15 := fun_mk (st := slawdraw) l15 q15 k15
  have b15 := F15.binds (ps := ["cell", "k", "many"]) fun _ _ _ _ _ _ us hl => by
    obtain ⟨_, _, _, rfl⟩ := us_len3 hl
    rfl
  have F16 := fun_mk (st := slawsmalls) l16 q16 k16
  have b16 := F16.binds (ps := ["cell", "at", "many"]) fun _ _ _ _ _ _ us hl => by
    obtain ⟨_, _, _, rfl⟩ := us_len3 hl
    rfl
  have F17 := fun_mk (st := slawword) l17 q17 k17
  have b17 := F17.binds (ps := ["cell"]) fun _ _ _ _ _ _ us hl => by
    obtain ⟨_, rfl⟩ := us_len1 hl
    rfl
  have F18 := fun_mk (st := slawbig) l18 q18 k18
  have b18 := F18.binds (ps := ["cell"]) fun _ _ _ _ _ _ us hl => by
    obtain ⟨_, rfl⟩ := us_len1 hl
    rfl
  have F19 := fun_mk (st := slawmade) l19 q19 k19
  have b19 := F19.binds (ps := ["kind", "cell", "used"]) fun _ _ _ _ _ _ us hl => by
    obtain ⟨_, _, _, rfl⟩ := us_len3 hl
    rfl
  have F20 := fun_mk (st := slawkind) l20 q20 k20
  have b20 := F20.binds (ps := ["cell", "ahead"]) fun _ _ _ _ _ _ us hl => by
    obtain ⟨_, _, rfl⟩ := us_len2 hl
    rfl
  have F21 := fun_mk (st := slawspots) l21 q21 k21
  have b21 := F21.binds (ps := ["kind"]) fun _ _ _ _ _ _ us hl => by
    obtain ⟨_, rfl⟩ := us_len1 hl
    rfl
  have F22 := fun_mk (st := slawpart) l22 q22 k22
  have b22 := F22.binds (ps := ["step", "k", "names"]) fun _ _ _ _ _ _ us hl => by
    obtain ⟨_, _, _, rfl⟩ := us_len3 hl
    rfl
  have F23 := fun_mk (st := slawrow) l23 q23 k23
  have b23 := F23.binds (ps := ["name", "step", "names"]) fun _ _ _ _ _ _ us hl => by
    obtain ⟨_, _, _, rfl⟩ := us_len3 hl
    rfl
  have F24 := fun_mk (st := slawsteps) l24 q24 k24
  have b24 := F24.binds (ps := ["cells"]) fun _ _ _ _ _ _ us hl => by
    obtain ⟨_, rfl⟩ := us_len1 hl
    rfl
  have F25 := fun_mk (st := slawprogram) l25 q25 k25
  have b25 := F25.binds (ps := ["script"]) fun _ _ _ _ _ _ us hl => by
    obtain ⟨_, rfl⟩ := us_len1 hl
    rfl
  have F26 := fun_mk (st := slawplainname) l26 q26 k26
  have b26 := F26.binds (ps := ["k"]) fun _ _ _ _ _ _ us hl => by
    obtain ⟨_, rfl⟩ := us_len1 hl
    rfl
  have F27 := fun_mk (st := slawnames) l27 q27 k27
  have b27 := F27.binds (ps := ["cell", "many"]) fun _ _ _ _ _ _ us hl => by
    obtain ⟨_, _, rfl⟩ := us_len2 hl
    rfl
  have F28 := fun_mk (st := slawrows) l28 q28 k28
  have b28 := F28.binds (ps := ["program", "names"]) fun _ _ _ _ _ _ us hl => by
    obtain ⟨_, _, rfl⟩ := us_len2 hl
    rfl
  have F29 := fund_mk (st := swritten) l29 q29 k29 ld29 rfl
  have b29 := F29.binds (ps := ["program", "names"]) (ds := []) fun _ _ _ _ _ _ us hl => by match us, hl with | [_, _], _ => exact ⟨_, rfl, rfl⟩ | [], hl => simp at hl | [_], hl => simp at hl | _ :: _ :: _ :: _, hl => simp at hl
  have bd29 := F29.binds (ps := ["program", "names"]) (ds := [.none]) fun _ _ _ _ _ _ us hl => by match us, hl with | [_], _ => exact ⟨_, rfl, rfl⟩ | [], hl => simp at hl | _ :: _ :: _, hl => simp at hl
  have F30 := fun_mk (st := slawalike) l30 q30 k30
  have b30 := F30.binds (ps := ["found", "due"]) fun _ _ _ _ _ _ us hl => by
    obtain ⟨_, _, rfl⟩ := us_len2 hl
    rfl
  have F31 := fun_mk (st := slaw) l31 q31 k31
  have b31 := F31.binds (ps := ["script"]) fun _ _ _ _ _ _ us hl => by
    obtain ⟨_, rfl⟩ := us_len1 hl
    rfl
  refine ⟨PySem.W.fnOf "law" "law" (defArgs slaw) (defBody slaw) (defScope slaw) .none kV31 dc31 pm31 an31 cd31 ct31, fun s v => .of_eq rfl, fun base KB GB => ?_⟩
  have O_partsof := okpartsof (P := l.prog) (w := w) (base := base) (mg := mg) F0 (PySem.W.mg_of X G gPT) TP
  have C_partsof := Callee.mk' F0 (PySem.W.mg_of X G a0) b0 O_partsof
  have O_partwords := okpartwords (P := l.prog) (w := w) (base := base) (mg := mg) F1 (PySem.W.mg_none_of X G zstr)
  have C_partwords := Callee.mk' F1 (PySem.W.mg_of X G a1) b1 O_partwords
  have O_steprow := oksteprow (P := l.prog) (w := w) (base := base) (mg := mg) F2 (C_partsof.mono (by decide)) (C_partwords.mono (by decide))
  have C_steprow := Callee.mk' F2 (PySem.W.mg_of X G a2) b2 O_steprow
  have O_isform := okisform (P := l.prog) (w := w) (base := base) (mg := mg) F3 (PySem.W.mg_of X G gPT) TP
  have C_isform := Callee.mk' F3 (PySem.W.mg_of X G a3) b3 O_isform
  have O_ismadeof := okismadeof (P := l.prog) (w := w) (base := base) (mg := mg) F4 (PySem.W.mg_none_of X G zlen) (PySem.W.mg_none_of X G zall)
  have C_ismadeof := Callee.mk' F4 (PySem.W.mg_of X G a4) b4 O_ismadeof
  have O_isname := okisname (P := l.prog) (w := w) (base := base) (mg := mg) F5 (C_ismadeof.mono (by decide)) (PySem.W.mg_of X G gLETTERS) (PySem.W.mg_of X G gMOST_LETTERS)
  have C_isname := Callee.mk' F5 (PySem.W.mg_of X G a5) b5 O_isname
  have O_figuresof := okfiguresof (P := l.prog) (w := w) (base := base) (mg := mg) F6 (C_ismadeof.mono (by decide)) (PySem.W.mg_none_of X G zlen) (PySem.W.mg_none_of X G zint) (PySem.W.mg_of X G gFIGURES)
  have C_figuresof := Callee.mk' F6 (PySem.W.mg_of X G a6) b6 O_figuresof
  have O_smallof := oksmallof (P := l.prog) (w := w) (base := base) (mg := mg) F7 (C_figuresof.mono (by decide))
  have C_smallof := Callee.mk' F7 (PySem.W.mg_of X G a7) b7 O_smallof
  have O_numberof := oknumberof (P := l.prog) (w := w) (base := base) (mg := mg) F8 (C_figuresof.mono (by decide)) (PySem.W.mg_of X G gLOW) (PySem.W.mg_of X G gHIGH)
  have C_numberof := Callee.mk' F8 (PySem.W.mg_of X G a8) b8 O_numberof
  have O_smallsof := oksmallsof (P := l.prog) (w := w) (base := base) (mg := mg) F9 (C_smallof.mono (by decide)) (PySem.W.mg_none_of X G zlen) (PySem.W.mg_none_of X G ztuple) (PySem.W.mg_of X G gMOST_SIDES_WRITTEN)
  have C_smallsof := Callee.mk' F9 (PySem.W.mg_of X G a9) b9 O_smallsof
  have O_partof := okpartof (P := l.prog) (w := w) (base := base) (mg := mg) F10 (C_isname.mono (by decide)) (C_numberof.mono (by decide)) (C_smallof.mono (by decide))
  have C_partof := Callee.mk' F10 (PySem.W.mg_of X G a10) b10 O_partof
  have O_stepof := okstepof (P := l.prog) (w := w) (base := base) (mg := mg) F11 (C_partsof.mono (by decide)) (C_smallsof.mono (by decide)) (C_partof.mono (by decide)) (PySem.W.mg_none_of X G zlen) (PySem.W.mg_none_of X G zlist) (PySem.W.mg_none_of X G ztuple)
  have C_stepof := Callee.mk' F11 (PySem.W.mg_of X G a11) b11 O_stepof
  have O_rowstep := okrowstep (P := l.prog) (w := w) (base := base) (mg := mg) F12 (C_isform.mono (by decide)) (C_isname.mono (by decide)) (C_stepof.mono (by decide)) (PySem.W.mg_none_of X G zlen)
  have C_rowstep := Callee.mk' F12 (PySem.W.mg_of X G a12) b12 O_rowstep
  have O_rowouts := okrowouts (P := l.prog) (w := w) (base := base) (mg := mg) F13 (PySem.W.mg_none_of X G zlen) (PySem.W.mg_none_of X G ztuple) (PySem.W.mg_of X G gMOST_OUTS)
  have C_rowouts := Callee.mk' F13 (PySem.W.mg_of X G a13) b13 O_rowouts
  have O_read := okread (P := l.prog) (w := w) (base := base) (mg := mg) F14 (C_rowstep.mono (by decide)) (C_rowouts.mono (by decide)) (PySem.W.mg_none_of X G zenumerate) (PySem.W.mg_none_of X G zlen) (PySem.W.mg_none_of X G ztuple) (PySem.W.mg_of X G gMOST_STEPS)
  have C_read := Callee.mk' F14 (PySem.W.mg_of X G a14) b14 O_read
  have O_lawdraw := oklawdraw (P := l.prog) (w := w) (base := base) (mg := mg) F15
  have C_lawdraw := Callee.mk' F15 (PySem.W.mg_of X G a15) b15 O_lawdraw
  have O_lawsmalls := oklawsmalls (P := l.prog) (w := w) (base := base) (mg := mg) F16 (C_lawdraw.mono (by decide)) (PySem.W.mg_none_of X G ztuple) (PySem.W.mg_none_of X G zrange)
  have C_lawsmalls := Callee.mk' F16 (PySem.W.mg_of X G a16) b16 O_lawsmalls
  have O_lawword := oklawword (P := l.prog) (w := w) (base := base) (mg := mg) F17 (C_lawdraw.mono (by decide)) (PySem.W.mg_none_of X G zrange)
  have C_lawword := Callee.mk' F17 (PySem.W.mg_of X G a17) b17 O_lawword
  have O_lawbig := oklawbig (P := l.prog) (w := w) (base := base) (mg := mg) F18 (C_lawdraw.mono (by decide))
  have C_lawbig := Callee.mk' F18 (PySem.W.mg_of X G a18) b18 O_lawbig
  have O_lawmade := oklawmade (P := l.prog) (w := w) (base := base) (mg := mg) F19 (C_lawsmalls.mono (by decide)) (C_lawdraw.mono (by decide)) (C_lawword.mono (by decide)) (C_lawbig.mono (by decide))
  have C_lawmade := Callee.mk' F19 (PySem.W.mg_of X G a19) b19 O_lawmade
  have O_lawkind := oklawkind (P := l.prog) (w := w) (base := base) (mg := mg) F20 (C_lawdraw.mono (by decide))
  have C_lawkind := Callee.mk' F20 (PySem.W.mg_of X G a20) b20 O_lawkind
  have O_lawspots := oklawspots (P := l.prog) (w := w) (base := base) (mg := mg) F21
  have C_lawspots := Callee.mk' F21 (PySem.W.mg_of X G a21) b21 O_lawspots
  have O_lawpart := oklawpart (P := l.prog) (w := w) (base := base) (mg := mg) F22 (C_lawspots.mono (by decide)) (PySem.W.mg_none_of X G zstr)
  have C_lawpart := Callee.mk' F22 (PySem.W.mg_of X G a22) b22 O_lawpart
  have O_lawrow := oklawrow (P := l.prog) (w := w) (base := base) (mg := mg) F23 (C_lawpart.mono (by decide)) (PySem.W.mg_none_of X G zlen) (PySem.W.mg_none_of X G zrange) (PySem.W.mg_none_of X G zisinstance) (PySem.W.mg_none_of X G ztuple) (PySem.W.mg_none_of X G zstr)
  have C_lawrow := Callee.mk' F23 (PySem.W.mg_of X G a23) b23 O_lawrow
  have O_lawsteps := oklawsteps (P := l.prog) (w := w) (base := base) (mg := mg) F24 (C_lawdraw.mono (by decide)) (C_lawkind.mono (by decide)) (C_lawmade.mono (by decide)) (PySem.W.mg_none_of X G zrange) (PySem.W.mg_none_of X G zlen) (PySem.W.mg_none_of X G zmax) (PySem.W.mg_none_of X G ztuple)
  have C_lawsteps := Callee.mk' F24 (PySem.W.mg_of X G a24) b24 O_lawsteps
  have O_lawprogram := oklawprogram (P := l.prog) (w := w) (base := base) (mg := mg) F25 (C_lawsteps.mono (by decide)) (C_lawdraw.mono (by decide)) (PySem.W.mg_none_of X G zlen) (PySem.W.mg_none_of X G zsum) (PySem.W.mg_none_of X G zrange) (PySem.W.mg_none_of X G ztuple)
  have C_lawprogram := Callee.mk' F25 (PySem.W.mg_of X G a25) b25 O_lawprogram
  have O_lawplainname := oklawplainname (P := l.prog) (w := w) (base := base) (mg := mg) F26
  have C_lawplainname := Callee.mk' F26 (PySem.W.mg_of X G a26) b26 O_lawplainname
  have O_lawnames := oklawnames (P := l.prog) (w := w) (base := base) (mg := mg) F27 (C_lawdraw.mono (by decide)) (C_lawplainname.mono (by decide)) (PySem.W.mg_none_of X G zrange) (PySem.W.mg_none_of X G ztuple)
  have C_lawnames := Callee.mk' F27 (PySem.W.mg_of X G a27) b27 O_lawnames
  have O_lawrows := oklawrows (P := l.prog) (w := w) (base := base) (mg := mg) F28 (C_lawrow.mono (by decide)) (PySem.W.mg_none_of X G zlen) (PySem.W.mg_none_of X G zrange)
  have C_lawrows := Callee.mk' F28 (PySem.W.mg_of X G a28) b28 O_lawrows
  have O_written := okwritten (P := l.prog) (w := w) (base := base) (mg := mg) F29 (C_steprow.mono (by decide)) (PySem.W.mg_none_of X G zzip)
  have C_written : Callee _ _ _ _ _ _ _ _ _ _ := ⟨⟨_, _, O_written, PySem.W.mg_of X G a29, F29.kp, b29⟩⟩
  have CD_written : CalleeD _ _ _ _ _ _ _ _ _ [.non] _ := ⟨⟨_, _, _, O_written, PySem.W.mg_of X G a29, F29.kp, bd29, .cons rfl .nil⟩⟩
  have O_lawalike := oklawalikeA (P := l.prog) (w := w) (base := base) (mg := mg) F30 (PySem.W.mg_none_of X G zisinstance) (PySem.W.mg_none_of X G ztuple) (PySem.W.mg_none_of X G zlen) (PySem.W.mg_none_of X G zrange) (PySem.W.mg_none_of X G zstr) (PySem.W.mg_none_of X G zint) (PySem.W.mg_none_of X G zbool) (PySem.W.mg_of X G a30) b30 6
  have C_lawalike := Callee.mk' F30 (PySem.W.mg_of X G a30) b30 O_lawalike
  have O_law := oklaw (P := l.prog) (w := w) (base := base) (mg := mg) F31 (C_lawprogram.mono (by decide)) (C_lawnames.mono (by decide)) (C_lawrows.mono (by decide)) (C_written.mono (by decide)) (C_read.mono (by decide)) (C_lawalike.mono (by decide)) (PySem.W.mg_none_of X G zsum) (PySem.W.mg_none_of X G zlen)
  exact O_law
theorem walk {l : PySem.W.OpenLaw} {q : Program} {loose : List Str} {XP : (Str → Option Value) → Heap → Prop} {YP : World → Heap → Prop} {d : DefRec} {K : Params → PySem.W.Frag} (hn : l.most = some 63) (hdf : d.params.defaults = [])
    (hY : ∀ (w : World) (h : Heap), YP w h → (K w.params).In h)
    (F : ∀ (w : World) (mg : Str → Option Value) (fa : Addr) (h : Heap), (K w.params).In h → h.Ns mainGlobals mg → mg d.name = some (.ref fa) →
      ∃ fd : FuncData, (∀ (s : Shared) (u : Value), BindsTo s fd ⟨[u], []⟩ [("script", u)]) ∧ ∀ base : Heap, (K w.params).In base → base.Ns mainGlobals mg → FnOk l.prog w (K w.params) mg base (CX0) 8 fa fd ["script"] (splaw (K w.params))) :
    PySem.W.WalkO q loose XP YP l.row.toRowW d [] (fun f vs => PySem.call f vs) :=
  L2.walk_of (n := 63) (k := 8) (x := "script") (CX := fun _ => CX0) (sp := fun w => splaw (K w.params)) hn (by decide) hdf ⟨rfl, by decide, by decide⟩ hY F (fun _ _ a ns hl hfew hS => ⟨a, ns, rfl, hS, hl, fun _ => rfl⟩) fun _ _ _ _ _ z => z
end My
open PySem PySem.W PyProof.Rows
set_option maxRecDepth 100000 in
set_option maxHeartbeats 0 in
theorem PySem.Challenge.cw_sideloom_k29_whole_read_holds : PySem.Challenge.rw_sideloom_k29_whole_read.Holds := by
  w_on; o_law; k_head; (case hw => w_witness2)
  k_fill
  refine My.walk (l := PySem.Challenge.rw_sideloom_k29_whole_read) rfl rfl (fun w h Y => PySem.W.kIn_of Y) ?F
  case F =>
    intro w mg fa h KX G hmg
    refine' My.all_mk KX G hmg ?a0 ?l0 ?q0 ?k0 ?a1 ?l1 ?q1 ?k1 ?a2 ?l2 ?q2 ?k2 ?a3 ?l3 ?q3 ?k3 ?a4 ?l4 ?q4 ?k4 ?a5 ?l5 ?q5 ?k5 ?a6 ?l6 ?q6 ?k6 ?a7 ?l7 ?q7 ?k7 ?a8 ?l8 ?q8 ?k8 ?a9 ?l9 ?q9 ?k9 ?a10 ?l10 ?q10 ?k10 ?a11 ?l11 ?q11 ?k11 ?a12 ?l12 ?q12 ?k12 ?a13 ?l13 ?q13 ?k13 ?a14 ?l14 ?q14 ?k14 ?a15 ?l15 ?q15 ?k15 ?a16 ?l16 ?q16 ?k16 ?a17 ?l17 ?q17 ?k17 ?a18 ?l18 ?q18 ?k18 ?a19 ?l19 ?q19 ?k19 ?a20 ?l20 ?q20 ?k20 ?a21 ?l21 ?q21 ?k21 ?a22 ?l22 ?q22 ?k22 ?a23 ?l23 ?q23 ?k23 ?a24 ?l24 ?q24 ?k24 ?a25 ?l25 ?q25 ?k25 ?a26 ?l26 ?q26 ?k26 ?a27 ?l27 ?q27 ?k27 ?a28 ?l28 ?q28 ?k28 ?a29 ?l29 ?q29 ?k29 ?ld29 ?a30 ?l30 ?q30 ?k30 ?a31 ?l31 ?q31 ?k31 ?zstr ?zlen ?zall ?zint ?ztuple ?zlist ?zenumerate ?zrange ?zisinstance ?zmax ?zsum ?zzip ?zbool ?gLETTERS ?gMOST_LETTERS ?gFIGURES ?gLOW ?gHIGH ?gMOST_SIDES_WRITTEN ?gMOST_OUTS ?gMOST_STEPS ?gPT ?dPT0 ?lPT ?lP0 ?lP0_0 ?lP1 ?lP1_0 ?lP2 ?lP2_0 ?lP2_1 ?lP3 ?lP3_0 ?lP3_1 ?lP4 ?lP4_0 ?lP4_1 ?lP4_2 ?lP5 ?lP5_0 ?lP5_1 ?lP5_2 ?lP6 ?lP6_0 ?lP6_1 ?lP7 ?lP7_0 ?lP7_1 ?lP8 ?lP8_0 ?lP8_1 ?lP8_2 ?lP8_3 ?lP8_4 ?lP9 ?lP9_0 ?lP9_1 ?lP9_2 ?lP10 ?lP10_0 ?lP10_1 ?lP11 ?lP11_0 ?lP11_1 ?lP11_2 ?lP12 ?lP12_0 ?lP12_1 ?lP13 ?lP13_0 ?lP13_1 ?lP13_2 ?lP14 ?lP14_0 ?lP14_1 ?lP14_2 
    (case a0 => k_is)
    (case l0 => k_is)
    (case q0 => k_is)
    (case k0 => k_is)
    (case a1 => k_is)
    (case l1 => k_is)
    (case q1 => k_is)
    (case k1 => k_is)
    (case a2 => k_is)
    (case l2 => k_is)
    (case q2 => k_is)
    (case k2 => k_is)
    (case a3 => k_is)
    (case l3 => k_is)
    (case q3 => k_is)
    (case k3 => k_is)
    (case a4 => k_is)
    (case l4 => k_is)
    (case q4 => k_is)
    (case k4 => k_is)
    (case a5 => k_is)
    (case l5 => k_is)
    (case q5 => k_is)
    (case k5 => k_is)
    (case a6 => k_is)
    (case l6 => k_is)
    (case q6 => k_is)
    (case k6 => k_is)
    (case a7 => k_is)
    (case l7 => k_is)
    (case q7 => k_is)
    (case k7 => k_is)
    (case a8 => k_is)
    (case l8 => k_is)
    (case q8 => k_is)
    (case k8 => k_is)
    (case a9 => k_is)
    (case l9 => k_is)
    (case q9 => k_is)
    (case k9 => k_is)
    (case a10 => k_is)
    (case l10 => k_is)
    (case q10 => k_is)
    (case k10 => k_is)
    (case a11 => k_is)
    (case l11 => k_is)
    (case q11 => k_is)
    (case k11 => k_is)
    (case a12 => k_is)
    (case l12 => k_is)
    (case q12 => k_is)
    (case k12 => k_is)
    (case a13 => k_is)
    (case l13 => k_is)
    (case q13 => k_is)
    (case k13 => k_is)
    (case a14 => k_is)
    (case l14 => k_is)
    (case q14 => k_is)
    (case k14 => k_is)
    (case a15 => k_is)
    (case l15 => k_is)
    (case q15 => k_is)
    (case k15 => k_is)
    (case a16 => k_is)
    (case l16 => k_is)
    (case q16 => k_is)
    (case k16 => k_is)
    (case a17 => k_is)
    (case l17 => k_is)
    (case q17 => k_is)
    (case k17 => k_is)
    (case a18 => k_is)
    (case l18 => k_is)
    (case q18 => k_is)
    (case k18 => k_is)
    (case a19 => k_is)
    (case l19 => k_is)
    (case q19 => k_is)
    (case k19 => k_is)
    (case a20 => k_is)
    (case l20 => k_is)
    (case q20 => k_is)
    (case k20 => k_is)
    (case a21 => k_is)
    (case l21 => k_is)
    (case q21 => k_is)
    (case k21 => k_is)
    (case a22 => k_is)
    (case l22 => k_is)
    (case q22 => k_is)
    (case k22 => k_is)
    (case a23 => k_is)
    (case l23 => k_is)
    (case q23 => k_is)
    (case k23 => k_is)
    (case a24 => k_is)
    (case l24 => k_is)
    (case q24 => k_is)
    (case k24 => k_is)
    (case a25 => k_is)
    (case l25 => k_is)
    (case q25 => k_is)
    (case k25 => k_is)
    (case a26 => k_is)
    (case l26 => k_is)
    (case q26 => k_is)
    (case k26 => k_is)
    (case a27 => k_is)
    (case l27 => k_is)
    (case q27 => k_is)
    (case k27 => k_is)
    (case a28 => k_is)
    (case l28 => k_is)
    (case q28 => k_is)
    (case k28 => k_is)
    (case a29 => k_is)
    (case l29 => k_is)
    (case q29 => k_is)
    (case k29 => k_is)
    (case ld29 => k_is)
    (case a30 => k_is)
    (case l30 => k_is)
    (case q30 => k_is)
    (case k30 => k_is)
    (case a31 => k_is)
    (case l31 => k_is)
    (case q31 => k_is)
    (case k31 => k_is)
    (case zstr => k_is)
    (case zlen => k_is)
    (case zall => k_is)
    (case zint => k_is)
    (case ztuple => k_is)
    (case zlist => k_is)
    (case zenumerate => k_is)
    (case zrange => k_is)
    (case zisinstance => k_is)
    (case zmax => k_is)
    (case zsum => k_is)
    (case zzip => k_is)
    (case zbool => k_is)
    (case gLETTERS => k_is)
    (case gMOST_LETTERS => k_is)
    (case gFIGURES => k_is)
    (case gLOW => k_is)
    (case gHIGH => k_is)
    (case gMOST_SIDES_WRITTEN => k_is)
    (case gMOST_OUTS => k_is)
    (case gMOST_STEPS => k_is)
    (case gPT => k_is)
    (case dPT0 => first | decide +kernel | rfl)
    (case lPT => k_is)
    (case lP0 => k_is)
    (case lP0_0 => k_is)
    (case lP1 => k_is)
    (case lP1_0 => k_is)
    (case lP2 => k_is)
    (case lP2_0 => k_is)
    (case lP2_1 => k_is)
    (case lP3 => k_is)
    (case lP3_0 => k_is)
    (case lP3_1 => k_is)
    (case lP4 => k_is)
    (case lP4_0 => k_is)
    (case lP4_1 => k_is)
    (case lP4_2 => k_is)
    (case lP5 => k_is)
    (case lP5_0 => k_is)
    (case lP5_1 => k_is)
    (case lP5_2 => k_is)
    (case lP6 => k_is)
    (case lP6_0 => k_is)
    (case lP6_1 => k_is)
    (case lP7 => k_is)
    (case lP7_0 => k_is)
    (case lP7_1 => k_is)
    (case lP8 => k_is)
    (case lP8_0 => k_is)
    (case lP8_1 => k_is)
    (case lP8_2 => k_is)
    (case lP8_3 => k_is)
    (case lP8_4 => k_is)
    (case lP9 => k_is)
    (case lP9_0 => k_is)
    (case lP9_1 => k_is)
    (case lP9_2 => k_is)
    (case lP10 => k_is)
    (case lP10_0 => k_is)
    (case lP10_1 => k_is)
    (case lP11 => k_is)
    (case lP11_0 => k_is)
    (case lP11_1 => k_is)
    (case lP11_2 => k_is)
    (case lP12 => k_is)
    (case lP12_0 => k_is)
    (case lP12_1 => k_is)
    (case lP13 => k_is)
    (case lP13_0 => k_is)
    (case lP13_1 => k_is)
    (case lP13_2 => k_is)
    (case lP14 => k_is)
    (case lP14_0 => k_is)
    (case lP14_1 => k_is)
    (case lP14_2 => k_is)
