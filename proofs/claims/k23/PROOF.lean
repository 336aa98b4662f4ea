import PyProof.Rows.All
import Wide.All
import OpenK.AllK
import Wide.FinOn
import Lean
import PyProof.EqAt
import PyProof.EqKinds
import PyProof.TupleCall
import PySem.Challenge.RW_sideloom_k23_whole_chains_of_views
set_option Elab.async false
set_option linter.all false
set_option maxRecDepth 100000
namespace L2
open PySem PySem.Spec PyProof.Rows
abbrev Key := Sum Int Str
def keyIs : Key → Value → Bool
  | .inl k, v => Value.isInt k v
  | .inr x, v => Value.isStrOf x v
def keyH (w : World) : Key → Int
  | .inl k => hashInt k
  | .inr x => hashStr w x
theorem keyIs_shape : ∀ {k : Key} {v : Value}, keyIs k v = true → (∃ i t, k = Sum.inl i ∧ v = Value.int i t) ∨ (∃ x t, k = Sum.inr x ∧ v = Value.str x t)
  | .inl i, v, h => by
    obtain ⟨t, e⟩ := Value.isInt_shape (k := i) (v := v) h
    exact .inl ⟨i, t, rfl, e⟩
  | .inr x, v, h => by
    obtain ⟨t, e⟩ := Value.isStrOf_shape (x := x) (v := v) h
    exact .inr ⟨x, t, rfl, e⟩
theorem keyIs_str (x : Str) (t : Tok) : keyIs (.inr x) (.str x t) = true := by simp [keyIs, Value.isStrOf]
theorem key_ll (a b : Int) : decide ((Sum.inl a : Key) = Sum.inl b) = (a == b) := by
  by_cases e : a = b
  · subst e; simp
  · have h : ¬ (Sum.inl a : Key) = Sum.inl b := fun q => e (Sum.inl.inj q)
    rw [decide_eq_false h]
    exact (beq_eq_false_iff_ne.mpr e).symm
theorem key_rr (a b : Str) : decide ((Sum.inr a : Key) = Sum.inr b) = decide (a = b) := by
  by_cases e : a = b
  · subst e; simp
  · have h : ¬ (Sum.inr a : Key) = Sum.inr b := fun q => e (Sum.inr.inj q)
    rw [decide_eq_false h, decide_eq_false e]
theorem key_lr (a : Int) (b : Str) : decide ((Sum.inl a : Key) = Sum.inr b) = false := decide_eq_false (fun q => nomatch q)
theorem key_rl (a : Str) (b : Int) : decide ((Sum.inr a : Key) = Sum.inl b) = false := decide_eq_false (fun q => nomatch q)
def mixKind (prog : Program) (w : World) : PySem.KeyKind prog w Key where
  is := keyIs
  hash := keyH w
  inj := fun v a b ha hb => by
    rcases keyIs_shape ha with ⟨i, t, rfl, rfl⟩ | ⟨x, t, rfl, rfl⟩
    · rcases keyIs_shape hb with ⟨j, u, rfl, e⟩ | ⟨y, u, rfl, e⟩
      · injection e with e1 _; rw [e1]
      · exact nomatch e
    · rcases keyIs_shape hb with ⟨j, u, rfl, e⟩ | ⟨y, u, rfl, e⟩
      · exact nomatch e
      · injection e with e1 _; rw [e1]
  byValue := fun k v h => by
    rcases keyIs_shape h with ⟨i, t, rfl, rfl⟩ | ⟨x, t, rfl, rfl⟩ <;> rfl
  pyHash := fun hv h => by
    rcases keyIs_shape hv with ⟨i, t, rfl, rfl⟩ | ⟨x, t, rfl, rfl⟩
    · exact wpAny_pyHash_int h
    · exact wpAny_pyHash_str h
  eqBool := fun hu hv h => by
    rcases keyIs_shape hu with ⟨i, t, rfl, rfl⟩ | ⟨x, t, rfl, rfl⟩
    · rcases keyIs_shape hv with ⟨j, u, rfl, rfl⟩ | ⟨y, u, rfl, rfl⟩
      · rw [key_ll] at h; exact wpAny_eqBool_int h
      · rw [key_lr] at h; exact SeqAt.EqAt.int_str i t y u _ _ _ _ h
    · rcases keyIs_shape hv with ⟨j, u, rfl, rfl⟩ | ⟨y, u, rfl, rfl⟩
      · rw [key_rl] at h; exact SeqAt.EqAt.str_int x t j u _ _ _ _ h
      · rw [key_rr] at h; exact wpAny_eqBool_str h
  «strs» := fun k x t v h => by
    rcases keyIs_shape h with ⟨i, u, rfl, e⟩ | ⟨y, u, rfl, e⟩
    · exact nomatch e
    · injection e with e1 _
      subst e1
      cases v <;> rfl
end L2
namespace L2
open PySem PySem.Spec PyProof.Rows
inductive V where
  | non | bl (b : Bool) | int (i : Int) | str (x : Str) | byt (b : Array UInt8) | flt (b : UInt64) | ref (a : Addr) | ty (n : String)
  deriving DecidableEq
def RelV : V → Value → Prop
  | .non, u => u = Value.none
  | .bl b, u => u = Value.bool b
  | .int i, u => ∃ t, u = Value.int i t
  | .str x, u => ∃ t, u = Value.str x t
  | .byt b, u => ∃ t, u = Value.bytes b t
  | .flt b, u => ∃ t, u = Value.float b t
  | .ref a, u => u = Value.ref a
  | .ty n, u => u = Value.type n
abbrev Vals : List V → List Value → Prop := Paired RelV
theorem Vals.length {xs : List V} {us : List Value} (r : Vals xs us) : xs.length = us.length := Paired.length r
theorem Vals.get : ∀ {xs : List V} {us : List Value} {i : Nat} {x : V}, Vals xs us → xs[i]? = some x → ∃ u, us[i]? = some u ∧ RelV x u
  | _, _, _, _, .nil, e => by simp at e
  | _, _, 0, _, .cons r _, e => by simp at e; subst e; exact ⟨_, rfl, r⟩
  | _, _, i + 1, x, .cons _ t, e => by
    obtain ⟨u, h1, h2⟩ := Vals.get (i := i) (x := x) t (by simpa using e)
    exact ⟨u, by simpa using h1, h2⟩
theorem Vals.set {x : V} {u : Value} (r : RelV x u) : ∀ {xs : List V} {us : List Value} (i : Nat), Vals xs us → Vals (xs.set i x) (us.set i u)
  | _, _, _, .nil => .nil
  | _, _, 0, .cons _ t => .cons r t
  | _, _, i + 1, .cons q t => .cons q (Vals.set r i t)
theorem Vals.append : ∀ {xs ys : List V} {us ws : List Value}, Vals xs us → Vals ys ws → Vals (xs ++ ys) (us ++ ws)
  | _, _, _, _, .nil, s => s
  | _, _, _, _, .cons r t, s => .cons r (Vals.append t s)
theorem Vals.take : ∀ {xs : List V} {us : List Value} (n : Nat), Vals xs us → Vals (xs.take n) (us.take n)
  | _, _, 0, _ => .nil
  | _, _, _ + 1, .nil => .nil
  | _, _, n + 1, .cons r t => .cons r (Vals.take n t)
theorem Vals.drop : ∀ {xs : List V} {us : List Value} (n : Nat), Vals xs us → Vals (xs.drop n) (us.drop n)
  | _, _, 0, r => r
  | _, _, _ + 1, .nil => .nil
  | _, _, n + 1, .cons _ t => Vals.drop n t
def RelO : Option V → Option Value → Prop
  | some v, some u => RelV v u
  | none, none => True
  | _, _ => False
def KV {κ : Type} : List (κ × V) → List (κ × Value) → Prop := Paired fun (p : κ × V) (q : κ × Value) => p.1 = q.1 ∧ RelV p.2 q.2
def kV : Key → V
  | .inl i => .int i
  | .inr x => .str x
inductive HO where
  | lst (xs : List V)
  | tup (xs : List V)
  | dK (kvs : List (Key × V)) | dT (kvs : List (List Key × V))
  | set (S : Int → Bool) (n : Nat)
  | ins (C dx : Addr) (fs : List (Str × V))
  | own (x : Addr)
  | xd (fs : List (Str × V))
  | met (f x : Addr)
  | rng (lo hi : Int)
  | frz (o : Obj) (u : HO)
  | tbl (ps : Array Value)
  | ext (φ : Heap → Prop)
abbrev Hp := Addr → Option HO
def upd (H : Hp) (a : Addr) (o : HO) : Hp := fun b => if b = a then some o else H b
theorem upd_same {H : Hp} {a : Addr} {o : HO} : upd H a o a = some o := by unfold upd; rw [if_pos rfl]
theorem upd_ne {H : Hp} {a b : Addr} {o : HO} (h : b ≠ a) : upd H a o b = H b := by unfold upd; rw [if_neg h]
theorem ne_of_none {H : Hp} {a b : Addr} {o : HO} (h : H a = some o) (h' : H b = none) : a ≠ b := by
  intro e; subst e; rw [h] at h'; cases h'
section
variable (P : Program) (w : World)
def ObjOk (H : Hp) (h : Heap) (a : Addr) : HO → Prop
  | .lst xs => xs.length ≤ sizeLine ∧ ∃ (its : List Value) (n : Nat), Vals xs its ∧ h.get? a = some { cls := .type "list", data := .seq its.toArray n }
  | .tup xs => xs.length ≤ sizeLine ∧ ∃ its : List Value, Vals xs its ∧ IsTup h a its.toArray
  | .dK kvs => kvs.length ≤ sizeLine ∧ (a == sysModules) = false ∧ ∃ vs, KV kvs vs ∧ h.DictOf (mixKind P w) a vs
  | .dT kvs => kvs.length ≤ sizeLine ∧ (a == sysModules) = false ∧ ∃ xs : List (List Key × Addr × Value),
      Paired (fun (p : List Key × V) (q : List Key × Addr × Value) => p.1 = q.1 ∧ H q.2.1 = some (.tup (p.1.map kV)) ∧ RelV p.2 q.2.2) kvs xs ∧
      ∃ o es ep, h.get? a = some o ∧ o.ExactDict ∧ o.data = .dict es ep ∧ es.toList = xs.map (entryOfKey (tupleKind (mixKind P w))) ∧ (xs.map (·.1)).Nodup
  | .set S n => h.SetOf (intKind P w) a S n
  | .ins C dx fs => H dx = some (.own a) ∧ fs.length ≤ 1000 ∧ dx ≠ a ∧ h.get? a = some (PySem.W.instObj C dx) ∧
      ∃ mA, h.Ns1 dx mA ∧ (∀ f, RelO (fs.lookup f) (mA f)) ∧ PySem.Within mA (fs.map (·.1))
  | .own _ => ∃ o, h.get? a = some o
  | .xd fs => ∃ mA, h.Ns1 a mA ∧ ∀ f, RelO (fs.lookup f) (mA f)
  | .rng lo hi => ∃ t u v, h.get? a = some { cls := .type "range", data := .fields #[.int lo t, .int hi u, .int 1 v] }
  | .frz o u => h.get? a = some o ∧ ObjOk H h a u
  | .tbl ps => h.get? a = some { cls := .none, data := .fields ps }
  | .met f x => h.get? a = some (PySem.W.methodObj (.ref f) (.ref x))
  | .ext φ => φ h ∧ (∃ o, h.get? a = some o) ∧ ∀ h1 h2 : Heap, φ h1 → (∀ o, h1.get? a = some o → h2.get? a = some o) → φ h2
def HOk (H : Hp) (h : Heap) : Prop := ∀ a o, H a = some o → ObjOk P w H h a o
end
section
variable {P : Program} {w : World} {H H' : Hp} {h h' : Heap} {a : Addr} {o : HO}
theorem ObjOk.lt (x : ObjOk P w H h a o) : a < h.objs.size := by
  cases o with
  | lst xs => obtain ⟨_, _, _, _, e⟩ := x; exact Heap.lt_size e
  | tup xs => obtain ⟨_, _, _, p⟩ := x; exact p.lt
  | dK kvs => obtain ⟨_, _, _, _, o, _, _, e, _⟩ := x; exact Heap.lt_size e
  | dT kvs => obtain ⟨_, _, _, _, o, _, _, e, _⟩ := x; exact Heap.lt_size e
  | set S n => obtain ⟨o, _, _, _, e, _⟩ := x; exact Heap.lt_size e
  | ins C dx fs => obtain ⟨_, _, _, e, _⟩ := x; exact Heap.lt_size e
  | own y => obtain ⟨_, e⟩ := x; exact Heap.lt_size e
  | xd fs => obtain ⟨_, ⟨_, _, _, e, _⟩, _⟩ := x; exact Heap.lt_size e
  | rng lo hi => obtain ⟨_, _, _, e⟩ := x; exact Heap.lt_size e
  | frz ob u => obtain ⟨e, _⟩ := x; exact Heap.lt_size e
  | tbl ps => exact Heap.lt_size (show h.get? a = some _ from x)
  | met f y => exact Heap.lt_size (show h.get? a = some _ from x)
  | ext φ => obtain ⟨_, ⟨_, e⟩, _⟩ := x; exact Heap.lt_size e
theorem Paired.mapP {α β : Type} {F G : α → β → Prop} : ∀ {l₁ : List α} {l₂ : List β}, Paired F l₁ l₂ → (∀ a b, F a b → G a b) → Paired G l₁ l₂
  | _, _, .nil, _ => .nil
  | _, _, .cons r t, f => .cons (f _ _ r) (Paired.mapP t f)
theorem ObjOk.stay (x : ObjOk P w H h a o) (k : ∀ b u, (b = a ∨ H b = some (.own a)) → h.get? b = some u → h'.get? b = some u)
    (ho : ∀ b, H b = some (.own a) → H' b = some (.own a)) (ht : ∀ b xs, H b = some (.tup xs) → H' b = some (.tup xs)) : ObjOk P w H' h' a o := by
  induction o with
  | lst xs => obtain ⟨z, its, n, r, e⟩ := x; exact ⟨z, its, n, r, k _ _ (.inl rfl) e⟩
  | tup xs => obtain ⟨z, its, r, ob, e, c⟩ := x; exact ⟨z, its, r, ob, k _ _ (.inl rfl) e, c⟩
  | dK kvs => obtain ⟨z, y, vs, r, ob, es, ep, e, c⟩ := x; exact ⟨z, y, vs, r, ob, es, ep, k _ _ (.inl rfl) e, c⟩
  | dT kvs =>
    obtain ⟨z, y, xs, r, ob, es, ep, e, c⟩ := x
    exact ⟨z, y, xs, Paired.mapP r fun p q z => ⟨z.1, ht _ _ z.2.1, z.2.2⟩, ob, es, ep, k _ _ (.inl rfl) e, c⟩
  | set S n => obtain ⟨ob, es, ep, t, e, c⟩ := x; exact ⟨ob, es, ep, t, k _ _ (.inl rfl) e, c⟩
  | ins C dx fs =>
    obtain ⟨d, z, ne, e, mA, ⟨od, es, ep, e2, c⟩, r⟩ := x
    exact ⟨ho _ d, z, ne, k _ _ (.inl rfl) e, mA, ⟨od, es, ep, k _ _ (.inr d) e2, c⟩, r⟩
  | own y => obtain ⟨ob, e⟩ := x; exact ⟨ob, k _ _ (.inl rfl) e⟩
  | xd fs => obtain ⟨mA, ⟨od, es, ep, e, c⟩, r⟩ := x; exact ⟨mA, ⟨od, es, ep, k _ _ (.inl rfl) e, c⟩, r⟩
  | rng lo hi => obtain ⟨t, u, v, e⟩ := x; exact ⟨t, u, v, k _ _ (.inl rfl) e⟩
  | frz ob u ih => obtain ⟨e, q⟩ := x; exact ⟨k _ _ (.inl rfl) e, ih q⟩
  | tbl ps =>
    have e : h.get? a = some { cls := .none, data := .fields ps } := x
    show h'.get? a = some { cls := .none, data := .fields ps }
    exact k a _ (.inl rfl) e
  | met f y =>
    have e : h.get? a = some (PySem.W.methodObj (.ref f) (.ref y)) := x
    show h'.get? a = some (PySem.W.methodObj (.ref f) (.ref y))
    exact k a _ (.inl rfl) e
  | ext φ => obtain ⟨p, ⟨o, e⟩, st⟩ := x; exact ⟨st _ _ p fun o q => k _ _ (.inl rfl) q, ⟨o, k _ _ (.inl rfl) e⟩, st⟩
theorem HOk.lt (x : HOk P w H h) (e : H a = some o) : a < h.objs.size := (x a o e).lt
theorem HOk.fresh (x : HOk P w H h) (e : h.objs.size ≤ a) : H a = none := by
  cases q : H a with
  | none => rfl
  | some u => exact absurd (Nat.lt_of_lt_of_le (x.lt q) e) (Nat.lt_irrefl _)
theorem HOk.kept (x : HOk P w H h) (k : ∀ b u, h.get? b = some u → h'.get? b = some u) : HOk P w H h' := fun a o e =>
  (x a o e).stay (fun b u _ q => k b u q) (fun _ q => q) fun _ _ q => q
theorem HOk.laid (x : HOk P w H h) (k : ∀ b u, h.get? b = some u → h'.get? b = some u) (hp : h.objs.size ≤ a) (new : ObjOk P w (upd H a o) h' a o) : HOk P w (upd H a o) h' := fun b u e => by
  have hn := x.fresh hp
  by_cases hb : b = a
  · subst hb; rw [upd_same] at e; cases e; exact new
  · rw [upd_ne hb] at e
    exact (x b u e).stay (fun c v _ q => k c v q) (fun c q => by rw [upd_ne (ne_of_none q hn)]; exact q) fun c xs q => by rw [upd_ne (ne_of_none q hn)]; exact q
end
def Rd (H : Hp) (a : Addr) (u : HO) : Prop := H a = some u ∨ ∃ o, H a = some (.frz o u)
theorem Rd.of {H : Hp} {a : Addr} {u : HO} (h : H a = some u) : Rd H a u := .inl h
theorem Rd.ok {P : Program} {w : World} {H : Hp} {h : Heap} {a : Addr} {u : HO} (r : Rd H a u) (x : HOk P w H h) : ObjOk P w H h a u := by
  rcases r with r | ⟨o, r⟩
  · exact x a u r
  · obtain ⟨_, q⟩ := x a _ r
    exact q
def Mut : Option HO → Prop
  | some (.lst _) => True
  | some (.dK _) => True
  | some (.dT _) => True
  | some (.set _ _) => True
  | some (.ins _ _ _) => True
  | some (.ext _) => True
  | _ => False
section
variable {P : Program} {w : World} {H : Hp} {h h' : Heap} {x e : Addr} {o' : HO}
theorem HOk.write (ok : HOk P w H h) (mu : Mut (H x)) (he : e = x ∨ H e = some (.own x)) (k : ∀ b u, b ≠ e → h.get? b = some u → h'.get? b = some u) (heo : ∃ u, h'.get? e = some u)
    (new : ObjOk P w (upd H x o') h' x o') : HOk P w (upd H x o') h' := fun b u q => by
  have nown : ∀ c y, H c = some (.own y) → c ≠ x := fun c y r z => by subst z; rw [r] at mu; exact mu
  have ntup : ∀ c xs, H c = some (.tup xs) → c ≠ x := fun c xs r z => by subst z; rw [r] at mu; exact mu
  by_cases hb : b = x
  · subst hb; rw [upd_same] at q; cases q; exact new
  · rw [upd_ne hb] at q
    by_cases hbe : b = e
    · have q' : H b = some (.own x) := by
        rcases he with z | z
        · exact absurd (hbe.trans z) hb
        · rw [hbe]; exact z
      rw [q] at q'; cases q'
      obtain ⟨v, hv⟩ := heo
      exact ⟨v, by rw [hbe]; exact hv⟩
    · refine (ok b u q).stay (fun c v hc r => k c v ?_ r) (fun c r => by rw [upd_ne (nown c b r)]; exact r) fun c xs r => by rw [upd_ne (ntup c xs r)]; exact r
      rcases hc with rfl | hc
      · exact hbe
      · rintro rfl
        rcases he with z | z
        · exact nown c b hc z
        · rw [hc] at z; cases z; exact hb rfl
end
structure Un (fs ex : List Addr) (H H' : Hp) (h h' : Heap) : Prop where
  keep : ∀ b o, h.get? b = some o → H b = none → b ∉ fs → b ∉ ex → h'.get? b = some o
  slot : ∀ b o, h.get? b = some o → H b = none → b ∈ fs → b ∉ ex → ∃ sl, h'.get? b = some { o with slots := sl }
  free : ∀ b o, h.get? b = some o → H b = none → b ∉ ex → H' b = none
  there : ∀ b o, h.get? b = some o → b ∉ ex → ∃ o', h'.get? b = some o'
  tups : ∀ b xs, H b = some (.tup xs) → H' b = some (.tup xs)
  frzs : ∀ b o u, H b = some (.frz o u) → H' b = some (.frz o u)
  tbls : ∀ b ps, H b = some (.tbl ps) → ∃ more, H' b = some (.tbl (ps ++ more))
section
variable {fs fs' ex ex' : List Addr} {H H1 H2 : Hp} {h h1 h2 h' : Heap} {a x e : Addr} {o : HO}
theorem Un.any (u : Un fs ex H H1 h h1) {b : Addr} {ob : Obj} (q : h.get? b = some ob) (n : H b = none) (hx : b ∉ ex) : ∃ sl, h1.get? b = some { ob with slots := sl } := by
  by_cases hb : b ∈ fs
  · exact u.slot b ob q n hb hx
  · exact ⟨ob.slots, u.keep b ob q n hb hx⟩
theorem Un.trans (a : Un fs ex H H1 h h1) (b : Un fs ex H1 H2 h1 h2) : Un fs ex H H2 h h2 where
  keep := fun c ob q n hc hx => b.keep c ob (a.keep c ob q n hc hx) (a.free c ob q n hx) hc hx
  slot := fun c ob q n hc hx => by
    obtain ⟨sl, e1⟩ := a.slot c ob q n hc hx
    obtain ⟨sl', e2⟩ := b.slot c _ e1 (a.free c ob q n hx) hc hx
    exact ⟨sl', e2⟩
  free := fun c ob q n hx => by
    obtain ⟨o', e1⟩ := a.there c ob q hx
    exact b.free c o' e1 (a.free c ob q n hx) hx
  there := fun c ob q hx => by
    obtain ⟨o', e1⟩ := a.there c ob q hx
    exact b.there c o' e1 hx
  tups := fun c xs q => b.tups c xs (a.tups c xs q)
  frzs := fun c ob xs q => b.frzs c ob xs (a.frzs c ob xs q)
  tbls := fun c ps q => by
    obtain ⟨m1, e1⟩ := a.tbls c ps q
    obtain ⟨m2, e2⟩ := b.tbls c _ e1
    exact ⟨m1 ++ m2, by rw [e2, Array.append_assoc]⟩
theorem Un.kept (k : ∀ b u, h.get? b = some u → h'.get? b = some u) : Un fs ex H H h h' :=
  ⟨fun b ob q _ _ _ => k b ob q, fun b ob q _ _ _ => ⟨ob.slots, k b ob q⟩, fun _ _ _ n _ => n, fun b ob q _ => ⟨ob, k b ob q⟩, fun _ _ q => q, fun _ _ _ q => q, fun _ ps q => ⟨#[], by rw [q]; simp⟩⟩
theorem Un.refl : Un fs ex H H h h := Un.kept fun _ _ q => q
theorem Un.laid (k : ∀ b u, h.get? b = some u → h'.get? b = some u) (hp : h.objs.size ≤ a) (hn : H a = none) : Un fs ex H (upd H a o) h h' where
  keep := fun b u q _ _ _ => k b u q
  slot := fun b u q _ _ _ => ⟨u.slots, k b u q⟩
  free := fun b u q n _ => by rw [upd_ne (Nat.ne_of_lt (Nat.lt_of_lt_of_le (Heap.lt_size q) hp))]; exact n
  there := fun b u q _ => ⟨u, k b u q⟩
  tups := fun b xs q => by rw [upd_ne (ne_of_none q hn)]; exact q
  frzs := fun b u xs q => by rw [upd_ne (ne_of_none q hn)]; exact q
  tbls := fun b ps q => ⟨#[], by rw [upd_ne (ne_of_none q hn), q]; simp⟩
theorem Un.write (mu : Mut (H x)) (he : e = x ∨ H e = some (.own x)) (k : ∀ b u, b ≠ e → h.get? b = some u → h'.get? b = some u) (heo : ∃ u, h'.get? e = some u) : Un fs ex H (upd H x o) h h' := by
  have hx : ∀ b, H b = none → b ≠ x := fun b n z => by subst z; rw [n] at mu; exact mu
  have hb : ∀ b, H b = none → b ≠ e := fun b n z => by
    subst z
    rcases he with r | r
    · exact hx b n r
    · rw [n] at r; cases r
  have hm : ∀ b u, H b = some u → ¬ Mut (some u) → b ≠ x := fun b u q nm z => by subst z; rw [q] at mu; exact nm mu
  refine ⟨fun b u q n _ _ => k b u (hb b n) q, fun b u q n _ _ => ⟨u.slots, k b u (hb b n) q⟩, fun b u q n _ => by rw [upd_ne (hx b n)]; exact n, fun b u q _ => ?_,
    fun b xs q => by rw [upd_ne (hm b _ q fun z => z)]; exact q, fun b u xs q => by rw [upd_ne (hm b _ q fun z => z)]; exact q, fun b ps q => ⟨#[], by rw [upd_ne (hm b _ q fun z => z), q]; simp⟩⟩
  by_cases hbe : b = e
  · subst hbe; exact heo
  · exact ⟨u, k b u hbe q⟩
theorem Un.mono (u : Un fs ex H H1 h h1) (hs : ∀ b ∈ fs, b ∈ fs') (hx : ∀ b ∈ ex, b ∈ ex') : Un fs' ex' H H1 h h1 :=
  ⟨fun b ob q n hb he => u.keep b ob q n (fun z => hb (hs b z)) fun z => he (hx b z), fun _ _ q n _ he => u.any q n fun z => he (hx _ z), fun b ob q n he => u.free b ob q n fun z => he (hx b z), fun b ob q he => u.there b ob q fun z => he (hx b z), u.tups, u.frzs, u.tbls⟩
end
def trk (h : Heap) (H : Hp) : List Addr := (List.range h.objs.size).filter fun a => (H a).isSome
def hidT (h : Heap) (H : Hp) : Heap := PySem.W.hideAll h (trk h H)
theorem hidT_size (h : Heap) (H : Hp) : (hidT h H).objs.size = h.objs.size := PySem.W.hideAll_size _ _
theorem hidT_get {h : Heap} {H : Hp} {b : Addr} {o : Obj} (e : h.get? b = some o) (n : H b = none) : (hidT h H).get? b = some o :=
  PySem.W.hideAll_get _ e fun hm => by
    have q : (H b).isSome = true := (List.mem_filter.mp hm).2
    rw [n] at q; simp at q
theorem of_hidT {h : Heap} {H : Hp} {b : Addr} {o : Obj} (e : (hidT h H).get? b = some o) : h.get? b = some o ∧ H b = none := by
  have e' : h.get? b = some o := PySem.W.of_hideAll (trk h H) e
  refine ⟨e', ?_⟩
  cases q : H b with
  | none => rfl
  | some x =>
    have hm : b ∈ trk h H := List.mem_filter.mpr ⟨List.mem_range.mpr (Heap.lt_size e'), by simp [q]⟩
    have z : (hidT h H).get? b = none := PySem.W.hideAll_none (trk h H) hm
    rw [z] at e; cases e
def allNews (g h : Heap) (L : Addr) : List (Addr × Obj) := (List.range h.objs.size).filterMap fun a => if a = L ∨ (g.get? a).isSome = true then none else (h.get? a).map fun o => (a, o)
def rest (g h : Heap) (L d : Addr) : List (Addr × Obj) := (allNews g h L).filter fun p => decide (p.1 ≠ d)
end L2
namespace L2
open PySem PySem.Spec PyProof.Rows
structure Mod (K : PySem.W.Frag) (mg : Str → Option Value) (base : Heap) : Prop where
  kin : K.In base
  glob : base.Ns mainGlobals mg
  blt : ∃ mb, base.Ns builtinsNs mb ∧ ∀ x : Str, x ≠ "__name__" → mb x = bootBuiltins x
  nolimit : base.NoLimit
structure Cx where
  prog : Program
  w : World
  K : PySem.W.Frag
  mg : Str → Option Value
  base : Heap
  A : Around
  N : List Str
  s₀ : Shared
  H₀ : Hp
  env : Env
  outer : List Env
  stack : List Env
  ex : List Addr
  fn : Str → Bool
  calm : Bool
  pn : List (Addr × Obj)
  xe : Value → Shared → Prop
def frs (l : List Env) : List Addr := l.filterMap (·.frame)
abbrev Cx.fs (X : Cx) : List Addr := frs X.outer
def Vis (sc : Scope) (x : Str) : Prop := sc.names.lookup x = some .local ∨ sc.names.lookup x = some .cell ∨ sc.names.lookup x = some .free
def Loc (sc : Scope) (x : Str) : Prop := sc.names.lookup x = some .local ∨ sc.names.lookup x = some .cell
def Look (env : Env) (h : Heap) (m : Str → Option Value) (x : Str) (u : Value) : Prop :=
  (env.kindOf x = some .local ∧ m x = some u) ∨ ((env.kindOf x = some .cell ∨ env.kindOf x = some .free) ∧ ∃ c, env.cells.lookup x = some c ∧ h.IsCell c (some u))
structure Cx.Ok (X : Cx) : Prop where
  mod : Mod X.K X.mg X.base
  kind : X.env.scope.kind = .function
  glob : X.env.globals = mainGlobals
  blt : X.env.builtins = builtinsNs
  above : X.s₀.heap.objs.size ≤ X.env.locals
  inj : ∀ x y c, X.env.cells.lookup x = some c → X.env.cells.lookup y = some c → x = y
  has : ∀ x, (X.env.kindOf x = some .cell ∨ X.env.kindOf x = some .free) → ∃ c, X.env.cells.lookup x = some c
  cab : ∀ x c, X.fn x = true → X.env.cells.lookup x = some c → X.s₀.heap.objs.size ≤ c
  hd : X.calm = true → X.A.handled = none
  frames : X.A.frames = some X.stack
  stk : X.stack = X.outer ∨ (X.stack = X.env :: X.outer ∧ X.env.frame = some X.env.locals)
  exf : ∀ b ∈ X.ex, b ≠ X.env.locals ∧ ∀ x c, X.env.cells.lookup x = some c → c ≠ b
  bs : ∀ b o, X.base.get? b = some o → X.s₀.heap.get? b = some o ∧ X.H₀ b = none
  bsz : X.base.objs.size ≤ X.s₀.heap.objs.size
  noex : ∀ b o, X.base.get? b = some o → b ∉ X.ex
  exfs : ∀ b ∈ X.ex, b ∉ X.fs
  funs : X.s₀.heap.FunFrames X.base X.outer
  frf : ∀ b ∈ X.fs, X.H₀ b = none
structure Inv (X : Cx) (pins : List (Addr × Obj)) (σ : List (Option V)) (H : Hp) (s : Shared) : Prop where
  ok : X.Ok
  os : s.os = X.s₀.os
  bare : AllBare s.gens
  base : Un X.fs X.ex X.H₀ H X.s₀.heap s.heap
  loc : ∃ m, s.heap.Ns X.env.locals m ∧ ∀ (i : Nat) (x : Str) (v : V), X.N[i]? = some x → σ[i]? = some (some v) → Vis X.env.scope x → ∃ u, RelV v u ∧ Look X.env s.heap m x u
  cell : ∀ x c, X.env.cells.lookup x = some c → ∃ v, s.heap.IsCell c v
  free : H X.env.locals = none
  freeC : ∀ x c, X.env.cells.lookup x = some c → H c = none
  pin : ∀ p ∈ X.pn ++ pins, s.heap.get? p.1 = some p.2 ∧ H p.1 = none ∧ p.1 ≠ X.env.locals ∧ p.1 ∉ X.fs ∧ ∀ v, p.2.data ≠ .cell v
  hok : HOk X.prog X.w H s.heap
  len : σ.length = X.N.length
section
variable {X : Cx} {pins : List (Addr × Obj)} {σ : List (Option V)} {H H' : Hp} {s : Shared} {h' : Heap}
theorem Cx.Ok.nofr (ok : X.Ok) {b : Addr} {o : Obj} (e : X.base.get? b = some o) : b ∉ X.fs := fun hb => by
  have := (ok.funs.mem hb).1
  rw [e] at this; cases this
theorem Inv.bs (I : Inv X pins σ H s) : ∀ b o, X.base.get? b = some o → s.heap.get? b = some o ∧ H b = none := fun b o e =>
  ⟨I.base.keep b o (I.ok.bs b o e).1 (I.ok.bs b o e).2 (I.ok.nofr e) (I.ok.noex b o e), I.base.free b o (I.ok.bs b o e).1 (I.ok.bs b o e).2 (I.ok.noex b o e)⟩
theorem Inv.bk (I : Inv X pins σ H s) : ∀ b o, X.base.get? b = some o → s.heap.get? b = some o := fun b o e => (I.bs b o e).1
theorem Inv.mod (I : Inv X pins σ H s) : Mod X.K X.mg X.base := I.ok.mod
theorem Inv.kIn (I : Inv X pins σ H s) : X.K.In s.heap := I.ok.mod.kin.keeps I.bk
theorem Inv.nolimit (I : Inv X pins σ H s) : s.heap.NoLimit := I.ok.mod.nolimit.keeps I.bk
theorem Inv.lt (I : Inv X pins σ H s) : X.env.locals < s.heap.objs.size := let ⟨_, hn, _⟩ := I.loc; hn.lt
theorem Inv.sz (I : Inv X pins σ H s) : X.s₀.heap.objs.size ≤ s.heap.objs.size := Nat.le_trans I.ok.above (Nat.le_of_lt I.lt)
theorem Inv.nofs (I : Inv X pins σ H s) {a : Addr} (h : s.heap.objs.size ≤ a) : a ∉ X.fs := fun hb => by
  obtain ⟨_, o, ho, _⟩ := I.ok.funs.mem hb
  exact absurd (Nat.lt_of_lt_of_le (Heap.lt_size ho) (Nat.le_trans I.sz h)) (Nat.lt_irrefl _)
theorem Inv.cne (I : Inv X pins σ H s) : ∀ x c, X.env.cells.lookup x = some c → c ≠ X.env.locals := fun x c e z => by
  obtain ⟨v, o, ho, hd⟩ := I.cell x c e
  obtain ⟨m, ⟨o', es, ep, ho', hd', _⟩, _⟩ := I.loc
  rw [z, ho'] at ho; cases ho; rw [hd'] at hd; cases hd
theorem Inv.funs (I : Inv X pins σ H s) : s.heap.FunFrames X.base X.outer := by
  have all : ∀ (l : List Env), (∀ b ∈ frs l, b ∈ X.fs) → X.s₀.heap.FunFrames X.base l → s.heap.FunFrames X.base l := by
    intro l
    induction l with
    | nil => intro _ _; trivial
    | cons env r ih =>
      intro hs hl
      obtain ⟨hk, ⟨L, o, hf, hn, ho, hd⟩, hr⟩ := hl
      have hL : L ∈ X.fs := hs L (by unfold frs; rw [List.filterMap_cons, hf]; exact List.mem_cons_self)
      obtain ⟨sl, e⟩ := I.base.slot L o ho (I.ok.frf L hL) hL fun z => I.ok.exfs L z hL
      exact ⟨hk, ⟨L, _, hf, hn, e, hd⟩, ih (fun b hb => hs b (by unfold frs; rw [List.filterMap_cons, hf]; exact List.mem_cons_of_mem _ hb)) hr⟩
  exact all X.outer (fun _ hb => hb) I.ok.funs
theorem Inv.stack (I : Inv X pins σ H s) : s.heap.FunFrames X.base X.stack := by
  rcases I.ok.stk with e | ⟨e, hf⟩
  · rw [e]; exact I.funs
  · rw [e]
    obtain ⟨m, hn, _⟩ := I.loc
    refine .cons (by rw [I.ok.kind]; decide) hf hn ?_ I.funs
    exact Heap.get?_none_of_le (Nat.le_trans I.ok.bsz I.ok.above)
theorem Inv.stkSub (I : Inv X pins σ H s) : ∀ b ∈ frs X.stack, b ∈ X.env.locals :: X.fs := fun b hb => by
  rcases I.ok.stk with e | ⟨e, hf⟩
  · rw [e] at hb; exact List.mem_cons_of_mem _ hb
  · rw [e] at hb
    unfold frs at hb
    rw [List.filterMap_cons, hf] at hb
    exact hb
theorem Inv.stkFree (I : Inv X pins σ H s) : ∀ b ∈ frs X.stack, H b = none := fun b hb => by
  rcases List.mem_cons.mp (I.stkSub b hb) with e | hb
  · rw [e]; exact I.free
  · obtain ⟨_, o, ho, _⟩ := I.ok.funs.mem hb
    exact I.base.free b o ho (I.ok.frf b hb) fun z => I.ok.exfs b z hb
theorem Inv.step {g' : Array GenState} {t' : Nat} {d' : Drawn} {ch : List Addr} (I : Inv X pins σ H s)
    (hch : ∀ b ∈ ch, (b ∈ X.ex ∨ X.s₀.heap.objs.size ≤ b) ∧ b ≠ X.env.locals ∧ (∀ x c, X.env.cells.lookup x = some c → c ≠ b) ∧ ∀ p ∈ X.pn ++ pins, p.1 ≠ b)
    (keep : ∀ b o, b ≠ X.env.locals → b ∉ X.fs → b ∉ ch → s.heap.get? b = some o → H b = none → h'.get? b = some o)
    (slot : ∀ b o, b ≠ X.env.locals → b ∈ X.fs → b ∉ ch → s.heap.get? b = some o → H b = none → ∃ sl, h'.get? b = some { o with slots := sl }) (free : ∀ b o, b ∉ ch → s.heap.get? b = some o → H b = none → H' b = none)
    (there : ∀ b o, b ∉ ch → s.heap.get? b = some o → ∃ o', h'.get? b = some o')
    (tups : ∀ b xs, H b = some (.tup xs) → H' b = some (.tup xs)) (frzs : ∀ b o u, H b = some (.frz o u) → H' b = some (.frz o u)) (tbls : ∀ b ps, H b = some (.tbl ps) → ∃ more, H' b = some (.tbl (ps ++ more)))
    (ns : ∀ m, s.heap.Ns X.env.locals m → h'.Ns X.env.locals m) (hok : HOk X.prog X.w H' h') (hg : AllBare g') :
    Inv X pins σ H' { s with heap := h', gens := g', drawn := d', toks := t' } := by
  have neL : ∀ b o, X.s₀.heap.get? b = some o → b ≠ X.env.locals := fun b o e => Nat.ne_of_lt (Nat.lt_of_lt_of_le (Heap.lt_size e) I.ok.above)
  have neC : ∀ b o, X.s₀.heap.get? b = some o → b ∉ X.ex → b ∉ ch := fun b o e hx hb => by
    rcases (hch b hb).1 with z | z
    · exact hx z
    · exact absurd (Nat.lt_of_lt_of_le (Heap.lt_size e) z) (Nat.lt_irrefl _)
  have cellK : ∀ x c, X.env.cells.lookup x = some c → ∀ v, s.heap.IsCell c v → h'.IsCell c v := fun x c e v ⟨o, ho, hd⟩ => by
    have nch : c ∉ ch := fun z => (hch c z).2.2.1 x c e rfl
    by_cases hc : c ∈ X.fs
    · obtain ⟨sl, q⟩ := slot c o (I.cne x c e) hc nch ho (I.freeC x c e)
      exact ⟨_, q, hd⟩
    · exact ⟨o, keep c o (I.cne x c e) hc nch ho (I.freeC x c e), hd⟩
  refine ⟨I.ok, I.os, hg, ⟨fun b o e n hb hx => ?_, fun b o e n hb hx => ?_, fun b o e n hx => ?_, fun b o e hx => ?_, fun b xs e => tups b xs (I.base.tups b xs e), fun b o xs e => frzs b o xs (I.base.frzs b o xs e), fun b ps e => ?_⟩, ?_, fun x c e => ?_, ?_, fun x c e => ?_, fun p hp => ?_, hok, I.len⟩
  · exact keep b o (neL b o e) hb (neC b o e hx) (I.base.keep b o e n hb hx) (I.base.free b o e n hx)
  · obtain ⟨sl, e1⟩ := I.base.slot b o e n hb hx
    obtain ⟨sl', e2⟩ := slot b _ (neL b o e) hb (neC b o e hx) e1 (I.base.free b o e n hx)
    exact ⟨sl', e2⟩
  · obtain ⟨o', e1⟩ := I.base.there b o e hx
    exact free b o' (neC b o e hx) e1 (I.base.free b o e n hx)
  · obtain ⟨o', e1⟩ := I.base.there b o e hx
    exact there b o' (neC b o e hx) e1
  · obtain ⟨m1, e1⟩ := I.base.tbls b ps e
    obtain ⟨m2, e2⟩ := tbls b _ e1
    exact ⟨m1 ++ m2, by rw [e2, Array.append_assoc]⟩
  · obtain ⟨m, hn, hl⟩ := I.loc
    refine ⟨m, ns m hn, fun i x v e1 e2 e3 => ?_⟩
    obtain ⟨u, r, l⟩ := hl i x v e1 e2 e3
    refine ⟨u, r, ?_⟩
    rcases l with l | ⟨k, c, e, z⟩
    · exact .inl l
    · exact .inr ⟨k, c, e, cellK x c e _ z⟩
  · obtain ⟨v, z⟩ := I.cell x c e
    exact ⟨v, cellK x c e v z⟩
  · obtain ⟨m, ⟨o, _, _, ho, _⟩, _⟩ := I.loc
    exact free _ o (fun z => (hch _ z).2.1 rfl) ho I.free
  · obtain ⟨v, o, ho, hd⟩ := I.cell x c e
    exact free c o (fun z => (hch c z).2.2.1 x c e rfl) ho (I.freeC x c e)
  · obtain ⟨e, n, ne, nf, d⟩ := I.pin p hp
    have nch : p.1 ∉ ch := fun z => (hch p.1 z).2.2.2 p hp rfl
    exact ⟨keep p.1 p.2 ne nf nch e n, free p.1 p.2 nch e n, ne, nf, d⟩
theorem Inv.un {t' : Nat} (I : Inv X pins σ H s) (u : Un X.fs [] H H' s.heap h') (hok : HOk X.prog X.w H' h') : Inv X pins σ H' { s with heap := h', toks := t' } := by
  obtain ⟨m, ⟨o, es, ep, ho, r⟩, _⟩ := id I.loc
  obtain ⟨sl, hL⟩ := u.any ho I.free (by simp)
  exact I.step (g' := s.gens) (d' := s.drawn) (ch := []) (fun _ z => nomatch z) (fun b o _ hb _ e n => u.keep b o e n hb (by simp)) (fun b o _ hb _ e n => u.slot b o e n hb (by simp)) (fun b o _ e n => u.free b o e n (by simp)) (fun b o _ e => u.there b o e (by simp)) u.tups u.frzs u.tbls (fun m' hm => by
    obtain ⟨o', es', ep', ho', r'⟩ := hm
    rw [ho] at ho'; cases ho'
    exact ⟨_, es', ep', hL, r'⟩) hok I.bare
theorem Inv.call {g' : Array GenState} {t' : Nat} {d' : Drawn} {ch : List Addr} (I : Inv X pins σ H s) (u : Un (frs X.stack) ch H H' s.heap h') (hok : HOk X.prog X.w H' h') (hg : AllBare g')
    (hch : ∀ b ∈ ch, (b ∈ X.ex ∨ X.s₀.heap.objs.size ≤ b) ∧ b ≠ X.env.locals ∧ (∀ x c, X.env.cells.lookup x = some c → c ≠ b) ∧ ∀ p ∈ X.pn ++ pins, p.1 ≠ b) :
    Inv X pins σ H' { s with heap := h', gens := g', drawn := d', toks := t' } := by
  obtain ⟨m, ⟨o, es, ep, ho, r⟩, _⟩ := id I.loc
  obtain ⟨sl, hL⟩ := u.any ho I.free fun z => (hch _ z).2.1 rfl
  exact I.step (ch := ch) hch (fun b o hL hb hc e n => u.keep b o e n (fun z => (List.mem_cons.mp (I.stkSub b z)).elim hL hb) hc) (fun b o _ _ hc e n => u.any e n hc) (fun b o hc e n => u.free b o e n hc) (fun b o hc e => u.there b o e hc) u.tups u.frzs u.tbls (fun m' hm => by
    obtain ⟨o', es', ep', ho', r'⟩ := hm
    rw [ho] at ho'; cases ho'
    exact ⟨_, es', ep', hL, r'⟩) hok hg
theorem Inv.turned {t' : Nat} {it : Addr} (I : Inv X pins σ H s) (k : ∀ b o, b ≠ it → s.heap.get? b = some o → h'.get? b = some o) (hn : H it = none) (hL : it ≠ X.env.locals)
    (h1 : it ∈ X.ex ∨ X.s₀.heap.objs.size ≤ it) (h2 : ∀ x c, X.env.cells.lookup x = some c → c ≠ it) (h3 : ∀ p ∈ X.pn ++ pins, p.1 ≠ it) : Inv X pins σ H { s with heap := h', toks := t' } := by
  have nit : ∀ b u, H b = some u → b ≠ it := fun b u e z => by rw [z, hn] at e; cases e
  refine I.step (g' := s.gens) (d' := s.drawn) (ch := [it]) (fun b hb => ?_) (fun b o _ _ hc e _ => k b o (fun z => hc (by simp [z])) e) (fun b o _ _ hc e _ => ⟨o.slots, k b o (fun z => hc (by simp [z])) e⟩) (fun _ _ _ _ n => n)
    (fun b o hc e => ⟨o, k b o (fun z => hc (by simp [z])) e⟩) (fun _ _ e => e) (fun _ _ _ e => e) (fun b ps e => ⟨#[], by rw [e]; simp⟩) (fun m hm => ?_) (fun b u e => ?_) I.bare
  · have e : b = it := by simpa using hb
    subst e
    exact ⟨h1, hL, h2, h3⟩
  · obtain ⟨o, es, ep, ho, r⟩ := hm
    exact ⟨o, es, ep, k _ o (Ne.symm hL) ho, r⟩
  · refine (I.hok b u e).stay (fun c v hc q => k c v ?_ q) (fun _ q => q) fun _ _ q => q
    rcases hc with z | z
    · rw [z]; exact nit b u e
    · exact nit c _ z
theorem Inv.tok (I : Inv X pins σ H s) (t : Nat) : Inv X pins σ H { s with toks := t } := I.un (h' := s.heap) (t' := t) Un.refl I.hok
theorem Inv.kept {t' : Nat} (I : Inv X pins σ H s) (k : ∀ b u, s.heap.get? b = some u → h'.get? b = some u) : Inv X pins σ H { s with heap := h', toks := t' } := I.un (Un.kept k) (I.hok.kept k)
theorem Inv.laid {a : Addr} {o : HO} {t' : Nat} (I : Inv X pins σ H s) (k : ∀ b u, s.heap.get? b = some u → h'.get? b = some u) (hp : s.heap.objs.size ≤ a) (new : ObjOk X.prog X.w (upd H a o) h' a o) :
    Inv X pins σ (upd H a o) { s with heap := h', toks := t' } := I.un (Un.laid k hp (I.hok.fresh hp)) (I.hok.laid k hp new)
theorem Inv.write {x e : Addr} {o : HO} {t' : Nat} (I : Inv X pins σ H s) (mu : Mut (H x)) (he : e = x ∨ H e = some (.own x)) (k : ∀ b u, b ≠ e → s.heap.get? b = some u → h'.get? b = some u) (heo : ∃ u, h'.get? e = some u)
    (new : ObjOk X.prog X.w (upd H x o) h' x o) : Inv X pins σ (upd H x o) { s with heap := h', toks := t' } := I.un (Un.write mu he k heo) (I.hok.write mu he k heo new)
theorem Inv.pins_of {pins' : List (Addr × Obj)} (I : Inv X pins σ H s) (h : ∀ p ∈ pins', s.heap.get? p.1 = some p.2 ∧ H p.1 = none ∧ p.1 ≠ X.env.locals ∧ p.1 ∉ X.fs ∧ ∀ v, p.2.data ≠ .cell v) : Inv X pins' σ H s :=
  ⟨I.ok, I.os, I.bare, I.base, I.loc, I.cell, I.free, I.freeC, fun p hp => (List.mem_append.mp hp).elim (fun z => I.pin p (List.mem_append_left _ z)) (h p), I.hok, I.len⟩
theorem nodup_ix {N : List Str} (hN : N.Nodup) {i j : Nat} {x : Str} (a : N[i]? = some x) (b : N[j]? = some x) : i = j := by
  obtain ⟨h1, e1⟩ := List.getElem?_eq_some_iff.mp a
  obtain ⟨h2, e2⟩ := List.getElem?_eq_some_iff.mp b
  exact (List.getElem_inj hN).mp (e1.trans e2.symm)
theorem store_ok2 {M : Model} {A : Around} {E : Value → Shared → Prop} {i : Nat} {x : Str} {v : V} {u : Value} {Q : Unit → Shared → Prop} (I : Inv X pins σ H s) (hN : X.N.Nodup) (hi : X.N[i]? = some x) (hx : Loc X.env.scope x) (r : RelV v u)
    (h : ∀ s', Inv X pins (σ.set i (some v)) H s' → (∃ a, Heap.SameBut a s.heap s'.heap ∧ (a = X.env.locals ∨ X.env.cells.lookup x = some a)) → Q () s') (hf : X.fn x = true ∨ X.env.scope.names.lookup x = some .local := by first | exact .inl rfl | exact .inr rfl | assumption) : wpAny M A (storeName X.env x u) Q E s := by
  obtain ⟨m, hn, hl⟩ := id I.loc
  have hcls : (X.env.scope.kind == .class || (X.env.scope.kind == .module && X.env.locals != X.env.globals)) = false := by rw [I.ok.kind]; rfl
  have hiσ : i < σ.length := by rw [I.len]; exact (List.getElem?_eq_some_iff.mp hi).1
  have cne := I.cne
  have tracked : ∀ {a : Addr} {h' : Heap}, (∃ o, s.heap.get? a = some o ∧ H a = none) → Heap.SameBut a s.heap h' → HOk X.prog X.w H h' := fun {a h'} ha hs b ob e => by
    obtain ⟨_, _, hfree⟩ := ha
    refine (I.hok b ob e).stay (fun c w' hc q => (hs.2 c ?_).trans q) (fun _ q => q) fun _ _ q => q
    rintro rfl
    rcases hc with rfl | hc
    · rw [hfree] at e; cases e
    · rw [hfree] at hc; cases hc
  rcases hx with hk | hk
  · refine wpAny_storeName_local hk hn (fun h' hn' hs => ?_) hcls
    obtain ⟨oL, _, _, hoL, _⟩ := id hn
    refine h _ ⟨I.ok, I.os, I.bare, ⟨fun b o e n hb hx => ?_, fun b o e n hb hx => ?_, I.base.free, fun b o e hx => ?_, I.base.tups, I.base.frzs, I.base.tbls⟩, ⟨_, hn', fun j y v' e1 e2 e3 => ?_⟩, fun y c e => ?_, I.free, I.freeC, fun p hp => ?_, tracked ⟨oL, hoL, I.free⟩ hs, by simpa using I.len⟩ ⟨_, hs, .inl rfl⟩
    · exact (hs.2 b (Nat.ne_of_lt (Nat.lt_of_lt_of_le (Heap.lt_size e) I.ok.above))).trans (I.base.keep b o e n hb hx)
    · obtain ⟨sl, e1⟩ := I.base.slot b o e n hb hx
      exact ⟨sl, (hs.2 b (Nat.ne_of_lt (Nat.lt_of_lt_of_le (Heap.lt_size e) I.ok.above))).trans e1⟩
    · obtain ⟨o', e1⟩ := I.base.there b o e hx
      exact ⟨o', (hs.2 b (Nat.ne_of_lt (Nat.lt_of_lt_of_le (Heap.lt_size e) I.ok.above))).trans e1⟩
    · by_cases hj : j = i
      · subst hj
        rw [hi] at e1; cases e1
        rw [List.getElem?_set_self hiσ] at e2
        cases e2
        exact ⟨u, r, .inl ⟨hk, by simp⟩⟩
      · rw [List.getElem?_set_ne (Ne.symm hj)] at e2
        obtain ⟨u', r', q⟩ := hl j y v' e1 e2 e3
        refine ⟨u', r', ?_⟩
        rcases q with ⟨k, e⟩ | ⟨k, c, e, z⟩
        · refine .inl ⟨k, ?_⟩
          have : y ≠ x := fun e => hj (nodup_ix hN e1 (e ▸ hi))
          simp [this, e]
        · exact .inr ⟨k, c, e, z.sameBut hs (cne y c e)⟩
    · obtain ⟨w', z⟩ := I.cell y c e
      exact ⟨w', z.sameBut hs (cne y c e)⟩
    · obtain ⟨e, n, ne, nf, d⟩ := I.pin p hp
      exact ⟨(hs.2 p.1 ne).trans e, n, ne, nf, d⟩
  · have hfn : X.fn x = true := by
      rcases hf with z | z
      · exact z
      · rw [z] at hk; cases hk
    obtain ⟨c, hc⟩ := I.ok.has x (.inl hk)
    obtain ⟨w', z⟩ := I.cell x c hc
    refine wpAny_storeName_cell I.ok.kind hk hc z (fun h' hc' hs => ?_)
    obtain ⟨oc, hoc, hocd⟩ := id z
    refine h { s with heap := h' } ⟨I.ok, I.os, I.bare, ⟨fun b o e n hb hx => ?_, fun b o e n hb hx => ?_, I.base.free, fun b o e hx => ?_, I.base.tups, I.base.frzs, I.base.tbls⟩, ⟨m, hn.sameBut hs (Ne.symm (cne x c hc)), fun j y v' e1 e2 e3 => ?_⟩, fun y c' e => ?_, I.free, I.freeC, fun p hp => ?_, tracked ⟨oc, hoc, I.freeC x c hc⟩ hs, by simpa using I.len⟩ ⟨c, hs, .inr hc⟩
    · exact (hs.2 b (Nat.ne_of_lt (Nat.lt_of_lt_of_le (Heap.lt_size e) (I.ok.cab x c hfn hc)))).trans (I.base.keep b o e n hb hx)
    · obtain ⟨sl, e1⟩ := I.base.slot b o e n hb hx
      exact ⟨sl, (hs.2 b (Nat.ne_of_lt (Nat.lt_of_lt_of_le (Heap.lt_size e) (I.ok.cab x c hfn hc)))).trans e1⟩
    · obtain ⟨o', e1⟩ := I.base.there b o e hx
      exact ⟨o', (hs.2 b (Nat.ne_of_lt (Nat.lt_of_lt_of_le (Heap.lt_size e) (I.ok.cab x c hfn hc)))).trans e1⟩
    · by_cases hj : j = i
      · subst hj
        rw [hi] at e1; cases e1
        rw [List.getElem?_set_self hiσ] at e2
        cases e2
        exact ⟨u, r, .inr ⟨.inl hk, c, hc, hc'⟩⟩
      · rw [List.getElem?_set_ne (Ne.symm hj)] at e2
        obtain ⟨u', r', q⟩ := hl j y v' e1 e2 e3
        refine ⟨u', r', ?_⟩
        rcases q with q | ⟨k, c', e, z'⟩
        · exact .inl q
        · refine .inr ⟨k, c', e, z'.sameBut hs ?_⟩
          rintro rfl
          exact hj (nodup_ix hN e1 (I.ok.inj _ _ _ e hc ▸ hi))
    · by_cases hcc : c' = c
      · subst hcc; exact ⟨_, hc'⟩
      · obtain ⟨w2, z2⟩ := I.cell y c' e
        exact ⟨w2, z2.sameBut hs hcc⟩
    · obtain ⟨e, n, ne, nf, d⟩ := I.pin p hp
      refine ⟨(hs.2 p.1 ?_).trans e, n, ne, nf, d⟩
      intro q
      rw [q, hoc] at e
      have q' : oc = p.2 := Option.some.inj e
      exact d w' (by rw [← q']; exact hocd)
theorem store_ok {M : Model} {A : Around} {E : Value → Shared → Prop} {i : Nat} {x : Str} {v : V} {u : Value} {Q : Unit → Shared → Prop} (I : Inv X pins σ H s) (hN : X.N.Nodup) (hi : X.N[i]? = some x) (hx : Loc X.env.scope x) (r : RelV v u)
    (h : ∀ s', Inv X pins (σ.set i (some v)) H s' → Q () s') (hf : X.fn x = true ∨ X.env.scope.names.lookup x = some .local := by first | exact .inl rfl | exact .inr rfl | assumption) : wpAny M A (storeName X.env x u) Q E s :=
  store_ok2 I hN hi hx r (fun s' I' _ => h s' I') hf
theorem Inv.call' {s' : Shared} {ch : List Addr} (I : Inv X pins σ H s) (ho : s'.os = s.os) (u : Un (frs X.stack) ch H H' s.heap s'.heap) (hok : HOk X.prog X.w H' s'.heap) (hg : AllBare s'.gens)
    (hch : ∀ b ∈ ch, (b ∈ X.ex ∨ X.s₀.heap.objs.size ≤ b) ∧ b ≠ X.env.locals ∧ (∀ x c, X.env.cells.lookup x = some c → c ≠ b) ∧ ∀ p ∈ X.pn ++ pins, p.1 ≠ b) : Inv X pins σ H' s' := by
  obtain ⟨h', g', d', t', o'⟩ := s'
  have e : o' = s.os := ho
  subst e
  exact I.call (g' := g') (t' := t') (d' := d') u hok hg hch
end
abbrev XK := Value → Option Addr → Hp → Prop
abbrev St := List (Option V)
abbrev VK := V → Hp → Prop
abbrev TE := St → Hp → VK → Prop
abbrev TT := St → Hp → (Bool → Hp → Prop) → Prop
abbrev TA := St → Hp → (List V → Hp → Prop) → Prop
structure Ends where
  nx : St → Hp → Prop
  rt : VK
  bk : St → Hp → Prop := fun _ _ => False
  ct : St → Hp → Prop := fun _ _ => False
abbrev TS := Ends → St → Hp → Prop
def EP (X : Cx) (pins : List (Addr × Obj)) (σ : St) (Q : VK) (u : Value) (s' : Shared) : Prop := ∃ v H', Inv X pins σ H' s' ∧ RelV v u ∧ Q v H'
def TP (X : Cx) (pins : List (Addr × Obj)) (σ : St) (Q : Bool → Hp → Prop) (b : Bool) (s' : Shared) : Prop := ∃ H', Inv X pins σ H' s' ∧ Q b H'
def AP (X : Cx) (pins : List (Addr × Obj)) (σ : St) (Q : List V → Hp → Prop) (us : List Value) (s' : Shared) : Prop := ∃ vs H', Inv X pins σ H' s' ∧ Vals vs us ∧ Q vs H'
def SP (X : Cx) (pins : List (Addr × Obj)) (D : Ends) (f : Flow) (s' : Shared) : Prop :=
  match f with
  | .next => ∃ σ' H', Inv X pins σ' H' s' ∧ D.nx σ' H'
  | .brk => ∃ σ' H', Inv X pins σ' H' s' ∧ D.bk σ' H'
  | .cont => ∃ σ' H', Inv X pins σ' H' s' ∧ D.ct σ' H'
  | .ret u => ∃ v σ' H', Inv X pins σ' H' s' ∧ RelV v u ∧ D.rt v H'
def PE (X : Cx) (e : Expr) (t : TE) : Prop :=
  ∀ (pins : List (Addr × Obj)) (s : Shared) (σ : St) (H : Hp) (Q : VK), Inv X pins σ H s → t σ H Q → wpAny (model X.prog X.w) X.A (eval e X.env) (EP X pins σ Q) X.xe s
def PT (X : Cx) (e : Expr) (t : TT) : Prop :=
  ∀ (pins : List (Addr × Obj)) (s : Shared) (σ : St) (H : Hp) (Q : Bool → Hp → Prop), Inv X pins σ H s → t σ H Q → wpAny (model X.prog X.w) X.A (isTrue e X.env (eval e X.env)) (TP X pins σ Q) X.xe s
def PW (X : Cx) (e : Expr) (t : TT) : Prop :=
  ∀ (whole : Sem Value) (pins : List (Addr × Obj)) (s : Shared) (σ : St) (H : Hp) (Q : Bool → Hp → Prop), Inv X pins σ H s → t σ H Q → wpAny (model X.prog X.w) X.A (isTrue e X.env whole) (TP X pins σ Q) X.xe s
theorem PW.pt {X : Cx} {e : Expr} {t : TT} (h : PW X e t) : PT X e t := h _
def PA (X : Cx) (es : List Expr) (t : TA) : Prop :=
  ∀ (pos : Pos) (pins : List (Addr × Obj)) (s : Shared) (σ : St) (H : Hp) (Q : List V → Hp → Prop), Inv X pins σ H s → t σ H Q → wpAny (model X.prog X.w) X.A (spliced (backTo pos (starEach es X.env))) (AP X pins σ Q) X.xe s
def PS (X : Cx) (st : Stmt) (t : TS) : Prop :=
  ∀ (pins : List (Addr × Obj)) (s : Shared) (σ : St) (H : Hp) (D : Ends), Inv X pins σ H s → t D σ H → wpAny (model X.prog X.w) X.A (exec st X.env) (SP X pins D) X.xe s
def PSs (X : Cx) (st : List Stmt) (t : TS) : Prop :=
  ∀ (pins : List (Addr × Obj)) (s : Shared) (σ : St) (H : Hp) (D : Ends), Inv X pins σ H s → t D σ H → wpAny (model X.prog X.w) X.A (execs st X.env) (SP X pins D) X.xe s
theorem thn {α : Type} {t : Sem α} {Q Q' : α → Shared → Prop} {M : Model} {A : Around} {E : Value → Shared → Prop} {s : Shared} (h : wpAny M A t Q E s) (hQ : ∀ a s, Q a s → Q' a s) : wpAny M A t Q' E s := wpAny_mono h hQ fun _ _ x => x
end L2
namespace L2
open PySem PySem.Spec PyProof.Rows
section
variable {X : Cx}
def tVar (i : Nat) : TE := fun σ H Q => ∃ v, σ[i]? = some (some v) ∧ Q v H
def tC (v : V) : TE := fun _ H Q => Q v H
theorem pe_var {i : Nat} {x : Str} {pos : Pos} (hN : X.N[i]? = some x) (hv : Vis X.env.scope x) (hd : (x == ("__debug__" : Str)) = false := by decide) (hcd : (x == ("__classdict__" : Str)) = false := by decide) : PE X (.Name x pos) (tVar i) := by
  intro pins s σ H Q I h
  obtain ⟨v, e, h⟩ := h
  obtain ⟨m, hn, hl⟩ := I.loc
  obtain ⟨u, r, l⟩ := hl i x v hN e hv
  have fin : EP X pins σ Q u s := ⟨v, H, I, r, h⟩
  rcases l with ⟨hk, hm⟩ | ⟨hk, c, hc, hcell⟩
  · exact wpAny_Name (wpAny_loadName_local I.ok.kind hk hn hm fin) hd
  · rcases hk with hk | hk
    · exact wpAny_Name (wpAny_loadName_cell I.ok.kind hk hc hcell fin) hd
    · exact wpAny_Name (wpAny_loadName_free I.ok.kind hk hc hcell fin hcd) hd
theorem pe_int {i j pos} : PE X (.Constant (.int i) j pos) (tC (.int i)) := fun _ _ _ H _ I h => wpAny_Constant_int ⟨.int i, H, I.tok _, ⟨_, rfl⟩, h⟩
theorem pe_bl {b j pos} : PE X (.Constant (.bool b) j pos) (tC (.bl b)) := fun _ _ _ H _ I h => Constant_bool ⟨.bl b, H, I, rfl, h⟩
theorem pe_non {j pos} : PE X (.Constant .none j pos) (tC .non) := fun _ _ _ H _ I h => Constant_none ⟨.non, H, I, rfl, h⟩
theorem pe_str {x j pos} : PE X (.Constant (.str x) j pos) (tC (.str x)) := fun _ _ _ H _ I h => Calls.Constant_str ⟨.str x, H, I.tok _, ⟨_, rfl⟩, h⟩
def Gl (X : Cx) (x : Str) : Prop := X.env.kindOf x = some .globalImplicit
theorem ld_glob {E : Value → Shared → Prop} {pins : List (Addr × Obj)} {s : Shared} {σ : St} {H : Hp} {x : Str} {u : Value} {pos : Pos} {Q : Value → Shared → Prop} (I : Inv X pins σ H s) (hg : Gl X x) (hm : X.mg x = some u) (h : Q u s)
    (hd : (x == ("__debug__" : Str)) = false := by decide) : wpAny (model X.prog X.w) X.A (eval (.Name x pos) X.env) Q E s :=
  Calls.Name_function_global I.ok.kind hg (Calls.loadGlobal_global (by rw [I.ok.glob]; exact I.mod.glob.keeps I.bk) hm h) hd
theorem ld_blt {E : Value → Shared → Prop} {pins : List (Addr × Obj)} {s : Shared} {σ : St} {H : Hp} {x : Str} {u : Value} {pos : Pos} {Q : Value → Shared → Prop} (I : Inv X pins σ H s) (hg : Gl X x) (hm : X.mg x = none) (hv : bootBuiltins x = some u) (h : Q u s)
    (hn : x ≠ "__name__" := by decide) (hd : (x == ("__debug__" : Str)) = false := by decide) : wpAny (model X.prog X.w) X.A (eval (.Name x pos) X.env) Q E s := by
  obtain ⟨mb, h1, h2⟩ := I.mod.blt
  exact Calls.Name_function_global I.ok.kind hg (Calls.loadGlobal_builtin (by rw [I.ok.glob]; exact I.mod.glob.keeps I.bk) hm (by rw [I.ok.blt]; exact h1.keeps I.bk) ((h2 x hn).trans hv) h) hd
theorem pe_glob {x : Str} {v : V} {u : Value} {pos : Pos} (hg : Gl X x) (hm : X.mg x = some u) (r : RelV v u) (hd : (x == ("__debug__" : Str)) = false := by decide) : PE X (.Name x pos) (tC v) :=
  fun _ _ _ H _ I h => ld_glob I hg hm ⟨v, H, I, r, h⟩ hd
theorem pe_bltn {x : Str} {v : V} {u : Value} {pos : Pos} (hg : Gl X x) (hm : X.mg x = none) (hv : bootBuiltins x = some u) (r : RelV v u) (hn : x ≠ "__name__" := by decide) (hd : (x == ("__debug__" : Str)) = false := by decide) : PE X (.Name x pos) (tC v) :=
  fun _ _ _ H _ I h => ld_blt I hg hm hv ⟨v, H, I, r, h⟩ hn hd
variable {a b : Expr} {ta tb : TE} {pos : Pos}
def tB (t : TE) : TT := fun σ H Q => t σ H fun x H1 => ∃ c, x = .bl c ∧ Q c H1
theorem pt_val {e : Expr} {t : TE} (h : PE X e t) (he : ∀ whole, isTrue e X.env whole = (do let v ← whole; standAt e.pos; holding [v] (truthy v)) := by intro _; rfl) : PT X e (tB t) := by
  intro pins s σ H Q I hw
  refine isTrue_plain (thn (h pins s σ H _ I hw) fun v s1 ⟨x, H1, I1, r1, q1⟩ => ?_) (he _)
  obtain ⟨d, rfl, q⟩ := q1
  cases r1
  exact wpAny_truthy_bool ⟨H1, I1, q⟩
variable {tA tB' : TT} {rest : List Expr}
def tAnd (t u : TT) : TT := fun σ H Q => t σ H fun c H1 => if c = true then u σ H1 Q else Q false H1
def tOr (t u : TT) : TT := fun σ H Q => t σ H fun c H1 => if c = true then Q true H1 else u σ H1 Q
def tNot (t : TT) : TT := fun σ H Q => t σ H fun c H1 => Q (!c) H1
theorem pw_and1 (ha : PT X a tA) : PW X (.BoolOp .And [a] pos) tA := by
  intro wh pins s σ H Q I h
  refine isTrue_and (thn (ha pins s σ H Q I h) fun c s1 e => ?_)
  cases c with
  | true => exact isTrue_and_nil e
  | false => exact e
theorem pw_or1 (ha : PT X a tA) : PW X (.BoolOp .Or [a] pos) tA := by
  intro wh pins s σ H Q I h
  refine isTrue_or (thn (ha pins s σ H Q I h) fun c s1 e => ?_)
  cases c with
  | false => exact isTrue_or_nil e
  | true => exact e
theorem pw_and (ha : PT X a tA) (hb : PW X (.BoolOp .And (b :: rest) pos) tB') : PW X (.BoolOp .And (a :: b :: rest) pos) (tAnd tA tB') := by
  intro wh pins s σ H Q I h
  refine isTrue_and (thn (ha pins s σ H _ I h) fun c s1 ⟨H1, I1, q1⟩ => ?_)
  cases c with
  | true => exact hb wh pins s1 σ H1 Q I1 q1
  | false => exact ⟨H1, I1, q1⟩
theorem pw_or (ha : PT X a tA) (hb : PW X (.BoolOp .Or (b :: rest) pos) tB') : PW X (.BoolOp .Or (a :: b :: rest) pos) (tOr tA tB') := by
  intro wh pins s σ H Q I h
  refine isTrue_or (thn (ha pins s σ H _ I h) fun c s1 ⟨H1, I1, q1⟩ => ?_)
  cases c with
  | true => exact ⟨H1, I1, q1⟩
  | false => exact hb wh pins s1 σ H1 Q I1 q1
theorem pt_not (ha : PT X a tA) : PT X (.UnaryOp .Not a pos) (tNot tA) := by
  intro pins s σ H Q I h
  exact isTrue_not (ha pins s σ H (fun c H1 => Q (!c) H1) I h)
def tAndV (ta tb : TE) : TE := fun σ H Q => ta σ H fun x H1 => ∃ c, x = .bl c ∧ if c = true then tb σ H1 Q else Q (.bl false) H1
def tOrV (ta tb : TE) : TE := fun σ H Q => ta σ H fun x H1 => ∃ c, x = .bl c ∧ if c = true then Q (.bl true) H1 else tb σ H1 Q
def tNotV (ta : TE) : TE := fun σ H Q => ta σ H fun x H1 => ∃ c, x = .bl c ∧ Q (.bl (!c)) H1
theorem pe_one {op} {t : TE} (h : PE X a t) : PE X (.BoolOp op [a] pos) t := fun pins s σ H Q I hw => BoolOp_one (h pins s σ H Q I hw)
theorem pe_and (ha : PE X a ta) (hb : PE X (.BoolOp .And (b :: rest) pos) tb) : PE X (.BoolOp .And (a :: b :: rest) pos) (tAndV ta tb) := by
  intro pins s σ H Q I h
  refine BoolOp_and (thn (ha pins s σ H _ I h) fun v s1 ⟨x, H1, I1, r1, q1⟩ => ?_)
  obtain ⟨c, rfl, q1⟩ := q1
  cases r1
  refine wpAny_truthy_bool ?_
  cases c with
  | true => exact hb pins s1 σ H1 Q I1 q1
  | false => exact ⟨.bl false, H1, I1, rfl, q1⟩
theorem pe_not (ha : PE X a ta) : PE X (.UnaryOp .Not a pos) (tNotV ta) := by
  intro pins s σ H Q I h
  refine UnaryOp_ (thn (ha pins s σ H _ I h) fun v s1 ⟨x, H1, I1, r1, q1⟩ => ?_)
  obtain ⟨c, rfl, q1⟩ := q1
  cases r1
  exact not_of (wpAny_truthy_bool ⟨.bl (!c), H1, I1, rfl, q1⟩)
def tIf (t : TT) (ta tb : TE) : TE := fun σ H Q => t σ H fun c H1 => if c = true then ta σ H1 Q else tb σ H1 Q
theorem pe_ifExp {c : Expr} (hc : PT X c tA) (ha : PE X a ta) (hb : PE X b tb) : PE X (.IfExp c a b pos) (tIf tA ta tb) := by
  intro pins s σ H Q I h
  refine wpAny_IfExp (thn (hc pins s σ H _ I h) fun d s1 ⟨H1, I1, q1⟩ => ?_)
  cases d with
  | true => exact ha pins s1 σ H1 Q I1 q1
  | false => exact hb pins s1 σ H1 Q I1 q1
end
end L2
namespace L2
open PySem PySem.Spec PyProof.Rows
def SqL (K : PySem.W.Frag) (H : Hp) (a : Addr) (xs : List V) : Prop :=
  Rd H a (.lst xs) ∨
    ∃ (o : Obj) (its : Array Value) (n : Nat), K.lookup a = some o ∧ o.cls = .type "list" ∧ o.dict = none ∧ o.data = .seq its n ∧ its.size ≤ sizeLine ∧ Vals xs its.toList
def SqT (K : PySem.W.Frag) (H : Hp) (a : Addr) (xs : List V) : Prop :=
  Rd H a (.tup xs) ∨
    ∃ (o : Obj) (its : Array Value) (n : Nat), K.lookup a = some o ∧ o.cls = .type "tuple" ∧ o.data = .seq its n ∧ its.size ≤ sizeLine ∧ Vals xs its.toList
def absV : Value → Option V
  | .none => some .non
  | .bool b => some (.bl b)
  | .int i _ => some (.int i)
  | .str x _ => some (.str x)
  | .bytes b _ => some (.byt b)
  | .float b _ => some (.flt b)
  | .ref a => some (.ref a)
  | .type n => some (.ty n)
  | _ => none
theorem RelV.abs {x : V} {u : Value} (r : RelV x u) : absV u = some x := by
  cases x with
  | non => cases r; rfl
  | bl _ => cases r; rfl
  | int _ => obtain ⟨t, rfl⟩ := r; rfl
  | str _ => obtain ⟨t, rfl⟩ := r; rfl
  | byt _ => obtain ⟨t, rfl⟩ := r; rfl
  | flt _ => obtain ⟨t, rfl⟩ := r; rfl
  | ref _ => cases r; rfl
  | ty _ => cases r; rfl
theorem RelV.inj {x y : V} {u : Value} (r : RelV x u) (q : RelV y u) : x = y := Option.some.inj (r.abs.symm.trans q.abs)
theorem Vals.inj : ∀ {xs ys : List V} {us : List Value}, Vals xs us → Vals ys us → xs = ys
  | _, _, _, .nil, .nil => rfl
  | _, _, _, .cons r t, .cons r' t' => by rw [r.inj r', Vals.inj t t']
section
variable {X : Cx} {pins : List (Addr × Obj)} {σ : St} {H : Hp} {s : Shared} {a : Addr} {xs ys : List V}
theorem SqL.of {K : PySem.W.Frag} (h : H a = some (.lst xs)) : SqL K H a xs := .inl (.inl h)
theorem SqT.of {K : PySem.W.Frag} (h : H a = some (.tup xs)) : SqT K H a xs := .inl (.inl h)
theorem Inv.list (I : Inv X pins σ H s) (h : SqL X.K H a xs) : ∃ its : List Value, Vals xs its ∧ PlainL s.heap a its.toArray ∧ xs.length ≤ sizeLine := by
  rcases h with h | ⟨o, its, n, hk, hc, hd, hs, hz, r⟩
  · obtain ⟨z, its, n, r, e⟩ := h.ok I.hok
    exact ⟨its, r, ⟨_, n, e, rfl, rfl, rfl⟩, z⟩
  · refine ⟨its.toList, r, ⟨o, n, I.kIn a o hk, hc, hd, by simpa using hs⟩, ?_⟩
    have e := r.length
    simp only [Array.length_toList] at e
    omega
theorem Inv.tuple (I : Inv X pins σ H s) (h : SqT X.K H a xs) : ∃ its : List Value, Vals xs its ∧ IsTup s.heap a its.toArray ∧ xs.length ≤ sizeLine := by
  rcases h with h | ⟨o, its, n, hk, hc, hs, hz, r⟩
  · obtain ⟨z, its, r, p⟩ := h.ok I.hok
    exact ⟨its, r, p, z⟩
  · refine ⟨its.toList, r, ⟨o, I.kIn a o hk, hc, n, by simpa using hs⟩, ?_⟩
    have e := r.length
    simp only [Array.length_toList] at e
    omega
theorem Inv.list_inj (I : Inv X pins σ H s) (h : SqL X.K H a xs) (h' : SqL X.K H a ys) : xs = ys := by
  obtain ⟨its, r, ⟨o, n, e, _, _, d⟩, _⟩ := I.list h
  obtain ⟨its', r', ⟨o', n', e', _, _, d'⟩, _⟩ := I.list h'
  rw [e] at e'; cases e'
  rw [d] at d'
  injection d' with d1 _
  have : its = its' := by simpa using congrArg Array.toList d1
  subst this
  exact r.inj r'
theorem Inv.tuple_inj (I : Inv X pins σ H s) (h : SqT X.K H a xs) (h' : SqT X.K H a ys) : xs = ys := by
  obtain ⟨its, r, ⟨o, e, _, n, d⟩, _⟩ := I.tuple h
  obtain ⟨its', r', ⟨o', e', _, n', d'⟩, _⟩ := I.tuple h'
  rw [e] at e'; cases e'
  rw [d] at d'
  injection d' with d1 _
  have : its = its' := by simpa using congrArg Array.toList d1
  subst this
  exact r.inj r'
end
abbrev Cx.wish (X : Cx) (E : Value → Shared → Prop) : Cx := { X with xe := E }
abbrev Cx.nox (X : Cx) : Cx := X.wish fun _ _ => False
theorem Cx.Ok.wish {X : Cx} (ok : X.Ok) (E : Value → Shared → Prop) : (X.wish E).Ok :=
  ⟨ok.mod, ok.kind, ok.glob, ok.blt, ok.above, ok.inj, ok.has, ok.cab, ok.hd, ok.frames, ok.stk, ok.exf, ok.bs, ok.bsz, ok.noex, ok.exfs, ok.funs, ok.frf⟩
theorem Cx.Ok.unwish {X : Cx} {E : Value → Shared → Prop} (ok : (X.wish E).Ok) : X.Ok :=
  ⟨ok.mod, ok.kind, ok.glob, ok.blt, ok.above, ok.inj, ok.has, ok.cab, ok.hd, ok.frames, ok.stk, ok.exf, ok.bs, ok.bsz, ok.noex, ok.exfs, ok.funs, ok.frf⟩
section
variable {X : Cx} {pins : List (Addr × Obj)} {σ : St} {H : Hp} {s : Shared} {E : Value → Shared → Prop}
theorem Inv.wish (I : Inv X pins σ H s) (E : Value → Shared → Prop) : Inv (X.wish E) pins σ H s := ⟨I.ok.wish E, I.os, I.bare, I.base, I.loc, I.cell, I.free, I.freeC, I.pin, I.hok, I.len⟩
theorem Inv.unwish (I : Inv (X.wish E) pins σ H s) : Inv X pins σ H s := ⟨I.ok.unwish, I.os, I.bare, I.base, I.loc, I.cell, I.free, I.freeC, I.pin, I.hok, I.len⟩
theorem SP.unwish {D : Ends} {f : Flow} {s' : Shared} (h : SP (X.wish E) pins D f s') : SP X pins D f s' := by
  cases f with
  | next => obtain ⟨σ', H', I, q⟩ := h; exact ⟨σ', H', I.unwish, q⟩
  | brk => obtain ⟨σ', H', I, q⟩ := h; exact ⟨σ', H', I.unwish, q⟩
  | cont => obtain ⟨σ', H', I, q⟩ := h; exact ⟨σ', H', I.unwish, q⟩
  | ret u => obtain ⟨v, σ', H', I, r, q⟩ := h; exact ⟨v, σ', H', I.unwish, r, q⟩
theorem PE.nox {e : Expr} {t : TE} (h : PE X.nox e t) : PE X e t := fun pins s σ H Q I hw =>
  wpAny_mono (h pins s σ H Q (I.wish _) hw) (fun _ _ ⟨v, H', I', r, q⟩ => ⟨v, H', I'.unwish, r, q⟩) fun _ _ z => False.elim z
theorem PT.nox {e : Expr} {t : TT} (h : PT X.nox e t) : PT X e t := fun pins s σ H Q I hw =>
  wpAny_mono (h pins s σ H Q (I.wish _) hw) (fun _ _ ⟨H', I', q⟩ => ⟨H', I'.unwish, q⟩) fun _ _ z => False.elim z
theorem PSs.nox {st : List Stmt} {t : TS} (h : PSs X.nox st t) : PSs X st t := fun pins s σ H D I hw =>
  wpAny_mono (h pins s σ H D (I.wish _) hw) (fun _ _ q => q.unwish) fun _ _ z => False.elim z
end
section
variable {X : Cx} {st : Stmt} {rest : List Stmt} {t u : TS} {e : Expr} {te : TE} {pos : Pos}
def tNext : TS := fun D σ H => D.nx σ H
def tSeq (t u : TS) : TS := fun D σ H => t { D with nx := u D } σ H
theorem pss_nil : PSs X [] tNext := fun _ _ σ H _ I h => wpAny_execs_nil ⟨σ, H, I, h⟩
theorem pss_cons (h1 : PS X st t) (h2 : PSs X rest u) : PSs X (st :: rest) (tSeq t u) := by
  intro pins s σ H D I h
  refine wpAny_execs_cons (thn (h1 pins s σ H { D with nx := u D } I h) fun f s1 q => ?_)
  cases f with
  | next =>
    obtain ⟨σ', H', I', q⟩ := q
    exact h2 pins s1 σ' H' D I' q
  | ret v => exact q
  | brk => exact q
  | cont => exact q
theorem pss_one (h1 : PS X st t) : PSs X [st] t := by
  intro pins s σ H D I h
  refine wpAny_execs_cons (thn (h1 pins s σ H D I h) fun f s1 q => ?_)
  cases f with
  | next => exact wpAny_execs_nil q
  | ret v => exact q
  | brk => exact q
  | cont => exact q
theorem Inv.quiet {pins : List (Addr × Obj)} {σ : St} {H : Hp} {s : Shared} (I : Inv X pins σ H s) : interactive X.env = false := by simp [interactive, I.ok.kind]
def tDrop (te : TE) : TS := fun D σ H => te σ H fun _ H1 => D.nx σ H1
theorem ps_expr (he : PE X e te) (hs : swapsWith e none pos.line X.env = pure false := by rfl) : PS X (.Expr e pos) (tDrop te) := by
  intro pins s σ H D I h
  exact wpAny_Expr_any (thn (he pins s σ H _ I h) fun v s1 ⟨x, H1, I1, r1, q1⟩ => ⟨σ, H1, I1, q1⟩) I.quiet hs
def tRet (te : TE) : TS := fun D σ H => te σ H D.rt
theorem ps_ret (he : PE X e te) : PS X (.Return (some e) pos) (tRet te) := by
  intro pins s σ H D I h
  exact wpAny_Return_some (thn (he pins s σ H _ I h) fun v s1 ⟨x, H1, I1, r1, q1⟩ => ⟨x, σ, H1, I1, r1, q1⟩)
def tRetN : TS := fun D _ H => D.rt .non H
def tIfS (c : TT) (t u : TS) : TS := fun D σ H => c σ H fun b H1 => if b = true then t D σ H1 else u D σ H1
theorem ps_if {c : Expr} {a b : List Stmt} {tc : TT} (hc : PT X c tc) (ha : PSs X a t) (hb : PSs X b u) : PS X (.If c a b pos) (tIfS tc t u) := by
  intro pins s σ H D I h
  refine wpAny_If (thn (hc pins s σ H _ I h) fun d s1 ⟨H1, I1, q1⟩ => ?_)
  cases d with
  | true => exact ha pins s1 σ H1 D I1 q1
  | false => exact hb pins s1 σ H1 D I1 q1
def tNever : TS := fun _ _ _ => False
theorem ps_never : PS X st tNever := fun _ _ _ _ _ _ h => h.elim
end
abbrev TG := V → St → Hp → (St → Hp → Prop) → Prop
abbrev TGs := List V → St → Hp → (St → Hp → Prop) → Prop
def PG (X : Cx) (target : Expr) (t : TG) : Prop :=
  ∀ (pins : List (Addr × Obj)) (s : Shared) (σ : St) (H : Hp) (v : V) (u : Value) (Q : St → Hp → Prop), Inv X pins σ H s → RelV v u → t v σ H Q →
    wpAny (model X.prog X.w) X.A (assign target X.env u) (fun _ s' => ∃ σ' H', Inv X pins σ' H' s' ∧ Q σ' H') X.xe s
def PGs (X : Cx) (ts : List Expr) (t : TGs) : Prop :=
  ∀ (pins : List (Addr × Obj)) (s : Shared) (σ : St) (H : Hp) (vs : List V) (us : List Value) (Q : St → Hp → Prop), Inv X pins σ H s → Vals vs us → t vs σ H Q →
    wpAny (model X.prog X.w) X.A (assignInOrder ((assignEach ts X.env).map (·.2)) us) (fun _ s' => ∃ σ' H', Inv X pins σ' H' s' ∧ Q σ' H') X.xe s
abbrev TSet := V → V → V → Hp → (Hp → Prop) → Prop
def PSet (X : Cx) (t : TSet) : Prop :=
  ∀ (pins : List (Addr × Obj)) (s : Shared) (σ : St) (H : Hp) (o i v : V) (ov iv u : Value) (Q : Hp → Prop), Inv X pins σ H s → RelV o ov → RelV i iv → RelV v u → t o i v H Q →
    wpAny (model X.prog X.w) X.A (setItem ov iv u) (fun _ s' => ∃ H', Inv X pins σ H' s' ∧ Q H') X.xe s
section
variable {X : Cx} {pos : Pos}
def gName (i : Nat) : TG := fun v σ H Q => Q (σ.set i (some v)) H
theorem pg_name {i : Nat} {x : Str} (hN : X.N.Nodup) (hi : X.N[i]? = some x) (hx : Loc X.env.scope x) (hf : X.fn x = true ∨ X.env.scope.names.lookup x = some .local := by first | exact .inl rfl | exact .inr rfl | assumption) : PG X (.Name x pos) (gName i) := by
  intro pins s σ H v u Q I r h
  exact wpAny_assign_Name (store_ok I hN hi hx r (fun s' I' => ⟨_, H, I', h⟩) hf)
def gNil : TGs := fun vs σ H Q => vs = [] ∧ Q σ H
def gCons (t : TG) (u : TGs) : TGs := fun vs σ H Q => ∃ v r, vs = v :: r ∧ t v σ H fun σ' H' => u r σ' H' Q
theorem pgs_nil : PGs X [] gNil := by
  intro pins s σ H vs us Q I r h
  obtain ⟨e, h⟩ := h
  subst e
  cases r
  exact assignInOrder_nil ⟨σ, H, I, h⟩
theorem pgs_cons {e : Expr} {es : List Expr} {t : TG} {u : TGs} (h1 : PG X e t) (h2 : PGs X es u)
    (hs : (assignEach (e :: es) X.env).map (·.2) = assign e X.env :: (assignEach es X.env).map (·.2) := by rfl) : PGs X (e :: es) (gCons t u) := by
  intro pins s σ H vs us Q I r h
  obtain ⟨v, vr, e1, h⟩ := h
  subst e1
  cases r with
  | cons r rr =>
    rw [hs]
    refine assignInOrder_cons (thn (h1 pins s σ H _ _ _ I r h) fun _ s1 ⟨σ1, H1, I1, q1⟩ => ?_)
    exact h2 pins s1 σ1 H1 _ _ Q I1 rr q1
def gTup (K : PySem.W.Frag) (n : Nat) (t : TGs) : TG := fun v σ H Q => ∃ a xs, v = .ref a ∧ SqT K H a xs ∧ xs.length = n ∧ t xs σ H Q
theorem pg_tup {es : List Expr} {k : Nat} {t : TGs} {n : Nat} (hc : X.calm = true) (h : PGs X es t)
    (hn : (assignEach es X.env).length = n := by rfl) (hst : (assignEach es X.env).findIdx? (·.1) = none := by rfl) : PG X (.Tuple es k pos) (gTup X.K n t) := by
  intro pins s σ H v u Q I r hw
  obtain ⟨a, xs, e1, hq, hl, hw⟩ := hw
  subst e1
  cases r
  obtain ⟨its, rv, ht, hz⟩ := I.tuple hq
  refine assign_Tuple_tuple (I.ok.hd hc) ht (by simp [hn, ← hl, rv.length]) hst fun h' hx => ?_
  have I1 : Inv X pins σ H { s with heap := h' } := I.kept (t' := s.toks) fun b o e => hx b o (Nat.ne_of_lt (Heap.lt_size e)) e
  exact h pins _ σ H xs _ Q I1 (by simpa using rv) hw
def gSub (to ti : TE) (t : TSet) : TG := fun v σ H Q => to σ H fun o H1 => ti σ H1 fun i H2 => t o i v H2 fun H3 => Q σ H3
theorem pg_sub {o i : Expr} {to ti : TE} {t : TSet} (ho : PE X o to) (hi : PE X i ti) (hs : PSet X t)
    (ha : ∀ v, assign (.Subscript o i pos) X.env v = (do
      let ov ← holding [v] (eval o X.env)
      let iv ← holding [v, ov] (eval i X.env)
      standAt pos
      holding [v, ov, iv] (setItem ov iv v)
      release [v, ov, iv] []) := by intro _; rfl) : PG X (.Subscript o i pos) (gSub to ti t) := by
  intro pins s σ H v u Q I r h
  rw [ha]
  refine wpAny_bind (wpAny_holding (thn (ho pins s σ H _ I h) fun ov s1 ⟨x, H1, I1, r1, q1⟩ => ?_))
  refine wpAny_bind (wpAny_holding (thn (hi pins s1 σ H1 _ I1 q1) fun iv s2 ⟨y, H2, I2, r2, q2⟩ => ?_))
  refine wpAny_bind (wpAny_standAt (wpAny_bind (wpAny_holding (thn (hs pins s2 σ H2 x y v ov iv u _ I2 r1 r2 r q2) fun _ s3 ⟨H3, I3, q3⟩ => ?_))))
  exact wpAny_release ⟨σ, H3, I3, q3⟩
def tAsg (te : TE) (g : TG) : TS := fun D σ H => te σ H fun x H1 => g x σ H1 D.nx
theorem ps_asg {tg e : Expr} {te : TE} {g : TG} (he : PE X e te) (hg : PG X tg g) (hs : swapsWithSole [tg] e pos.line X.env = pure false := by rfl) (hw : swappedStores [tg] e X.env = pure none := by rfl)
    (h1 : (assignEach [tg] X.env).map (·.2) = [assign tg X.env] := by rfl) : PS X (.Assign [tg] e pos) (tAsg te g) := by
  intro pins s σ H D I h
  refine wpAny_Assign_stores (thn (he pins s σ H _ I h) fun v s1 ⟨x, H1, I1, r1, q1⟩ => ?_) hs hw
  rw [h1]
  exact thn (hg pins s1 σ H1 x v _ I1 r1 q1) fun _ s2 q => q
theorem ps_set {i : Nat} {x : Str} {e : Expr} {te : TE} {pos' : Pos} (hN : X.N.Nodup) (hi : X.N[i]? = some x) (hx : Loc X.env.scope x) (he : PE X e te) (hs : swapsWith e (some (.Name x pos')) pos.line X.env = pure false := by rfl) (hf : X.fn x = true ∨ X.env.scope.names.lookup x = some .local := by first | exact .inl rfl | exact .inr rfl | assumption) :
    PS X (.Assign [.Name x pos'] e pos) (tAsg te (gName i)) := by
  intro pins s σ H D I h
  refine wpAny_Assign_Name (thn (he pins s σ H _ I h) fun v s1 ⟨y, H1, I1, r1, q1⟩ => ?_) hs
  exact store_ok I1 hN hi hx r1 (fun s2 I2 => ⟨_, H1, I2, q1⟩) hf
end
section
variable {X : Cx} {pos : Pos}
end
structure It where
  go : Nat → Hp → Prop
  yld : Nat → Hp → V → Hp → Prop
  stop : Nat → Hp → Prop
def FpOk (X : Cx) (pins : List (Addr × Obj)) (H : Hp) (b : Addr) : Prop :=
  H b = none ∧ b ≠ X.env.locals ∧ b ∉ X.fs ∧ (b ∈ X.ex ∨ X.s₀.heap.objs.size ≤ b) ∧ (∀ x c, X.env.cells.lookup x = some c → c ≠ b) ∧ ∀ p ∈ X.pn ++ pins, p.1 ≠ b
theorem Inv.fpOk {X : Cx} {pins : List (Addr × Obj)} {σ : St} {H H' : Hp} {s : Shared} {b : Addr} (I : Inv X pins σ H s) (hb : s.heap.objs.size ≤ b) (hn : H' b = none) : FpOk X pins H' b := by
  refine ⟨hn, Nat.ne_of_gt (Nat.lt_of_lt_of_le I.lt hb), I.nofs hb, .inr (Nat.le_trans I.sz hb), fun x c e z => ?_, fun p hp z => ?_⟩
  · obtain ⟨v, q⟩ := I.cell x c e
    exact absurd (Nat.lt_of_lt_of_le q.lt (by rw [z]; exact hb)) (Nat.lt_irrefl _)
  · exact absurd (Nat.lt_of_lt_of_le (Heap.lt_size (I.pin p hp).1) (by rw [z]; exact hb)) (Nat.lt_irrefl _)
structure Turn (P : Program) (w : World) (K : PySem.W.Frag) (tg : Expr) (J : It) (fp : List Addr) (it : Addr) (tn : Nat → Heap → Prop) : Prop where
  mem : it ∈ fp
  obj : ∀ i h, tn i h → ∀ b ∈ fp, ∃ o, h.get? b = some o ∧ ∀ v, o.data ≠ .cell v
  keep : ∀ i h h', tn i h → (∀ b ∈ fp, ∀ o, h.get? b = some o → h'.get? b = some o) → tn i h'
  item : ∀ (X : Cx), X.prog = P → X.w = w → X.K = K → X.calm = true → ∀ (i : Nat) (pins : List (Addr × Obj)) (s : Shared) (σ : St) (H : Hp) (E : Value → Shared → Prop), Inv X pins σ H s → (∀ b ∈ fp, FpOk X pins H b) → tn i s.heap → J.go i H →
    wpAny (model P w) X.A (pyNext (.ref it)) (fun r s1 => ∃ u, r = some u ∧
      wpAny (model P w) X.A (letOwnedTupleGo tg (.ref it) u) (fun _ s2 => ∃ x H', Inv X pins σ H' s2 ∧ RelV x u ∧ J.yld i H x H' ∧ tn (i + 1) s2.heap ∧ ∀ b ∈ fp, H' b = none) E s1) E s
  done : ∀ (X : Cx), X.prog = P → X.w = w → X.K = K → X.calm = true → ∀ (i : Nat) (pins : List (Addr × Obj)) (s : Shared) (σ : St) (H : Hp) (E : Value → Shared → Prop), Inv X pins σ H s → (∀ b ∈ fp, FpOk X pins H b) → tn i s.heap → J.stop i H →
    wpAny (model P w) X.A (pyNext (.ref it)) (fun r s1 => r = none ∧ Inv X pins σ H s1) E s
  self : ∀ (A : Around) (i : Nat) (s : Shared) (Q : Value → Shared → Prop) (E : Value → Shared → Prop), tn i s.heap → Q (.ref it) s → wpAny (model P w) A (pyIter (.ref it)) Q E s
abbrev TI := St → Hp → (It → Hp → Prop) → Prop
def PIE (X : Cx) (pins : List (Addr × Obj)) (σ : St) (tg : Expr) (R : It → Hp → Prop) (itv : Value) (s2 : Shared) : Prop :=
  ∃ (it : Addr) (fp : List Addr) (tn : Nat → Heap → Prop) (J : It) (H' : Hp), itv = .ref it ∧ Inv X pins σ H' s2 ∧ Turn X.prog X.w X.K tg J fp it tn ∧ tn 0 s2.heap ∧ (∀ b ∈ fp, FpOk X pins H' b) ∧ R J H'
def PI (X : Cx) (tg iter : Expr) (wi : TI) : Prop :=
  ∀ (pins : List (Addr × Obj)) (s : Shared) (σ : St) (H : Hp) (R : It → Hp → Prop), Inv X pins σ H s → wi σ H R →
    wpAny (model X.prog X.w) X.A (eval iter X.env) (fun v s1 => wpAny (model X.prog X.w) X.A (pyIter v) (PIE X pins σ tg R) X.xe s1) X.xe s
theorem go_of {M : Model} {A : Around} {E : Value → Shared → Prop} {s : Shared} {tg : Expr} {it : Addr} {u : Value} {o : Obj} {n : String} {vs : Array Value} {Q : Unit → Shared → Prop} (ho : s.heap.get? it = some o) (hc : o.cls = .type n) (hd : o.data = .fields vs)
    (hn : ["enumerate", "zip", "dict_itemiterator", "dict_reverseitemiterator", "odict_iterator", "itertools.zip_longest", "itertools.pairwise"].contains n = false) (hQ : Q () s) : wpAny M A (letOwnedTupleGo tg (.ref it) u) Q E s := by
  unfold letOwnedTupleGo
  cases tg <;> first
    | exact wpAny_pure hQ
    | (cases u <;> first
        | exact wpAny_pure hQ
        | (refine wpAny_bind (wpAny_load ho ?_)
           rw [hc, hd]
           show wpAny M A (if (["enumerate", "zip", "dict_itemiterator", "dict_reverseitemiterator", "odict_iterator", "itertools.zip_longest", "itertools.pairwise"].contains n && vs[0]? == some (rawInt _)) = true then _ else _) Q E s
           rw [if_neg (by intro h; rw [hn, Bool.false_and] at h; cases h)]
           exact wpAny_pure hQ))
def Itl (K : PySem.W.Frag) (a : Addr) : It :=
  ⟨fun i H => ∃ xs x, SqL K H a xs ∧ xs[i]? = some x, fun i H x H' => H' = H ∧ ∀ xs, SqL K H a xs → xs[i]? = some x, fun i H => ∃ xs, SqL K H a xs ∧ xs.length ≤ i⟩
def Itt (K : PySem.W.Frag) (a : Addr) : It :=
  ⟨fun i H => ∃ xs x, SqT K H a xs ∧ xs[i]? = some x, fun i H x H' => H' = H ∧ ∀ xs, SqT K H a xs → xs[i]? = some x, fun i H => ∃ xs, SqT K H a xs ∧ xs.length ≤ i⟩
def Itr (lo : Int) (n : Nat) : It := ⟨fun i _ => i < n, fun i H x H' => H' = H ∧ x = .int (lo + i), fun i _ => n ≤ i⟩
theorem turn_list {P : Program} {w : World} {K : PySem.W.Frag} {tg : Expr} (a it : Addr) : Turn P w K tg (Itl K a) [it] it (fun i h => h.IsListIter it a i) where
  mem := by simp
  obj := fun i h st b hb => by
    have e : b = it := by simpa using hb
    subst e
    obtain ⟨o, e, c, d⟩ := st
    exact ⟨o, e, fun v z => by rw [d] at z; cases z⟩
  keep := fun i h h' st k => st.at fun o e => k it (by simp) o e
  item := by
    intro X hP hw hK hc i pins s σ H E I hf st hg
    subst hP hw hK
    obtain ⟨xs, x, hq, hx⟩ := hg
    obtain ⟨its, rv, p, hz⟩ := I.list hq
    obtain ⟨u, hu, ru⟩ := rv.get hx
    obtain ⟨f0, f1, f2, f3, f4, f5⟩ := hf it (by simp)
    refine wpAny_pyNext_list_item st p.isList (x := u) (by simpa using hu) fun h' st' sb => ?_
    have I1 : Inv X pins σ H { s with heap := h' } := I.turned (t' := s.toks) (fun b o hb e => (sb.2 b hb).trans e) f0 f1 f3 f4 f5
    obtain ⟨o, e, c, d⟩ := id st'
    exact ⟨u, rfl, go_of (s := { s with heap := h' }) e c d (by decide) ⟨x, H, I1, ru, ⟨rfl, fun ys hy => by rw [I.list_inj hy hq]; exact hx⟩, st', fun b hb => (hf b hb).1⟩⟩
  done := by
    intro X hP hw hK hc i pins s σ H E I hf st hg
    subst hP hw hK
    obtain ⟨xs, hq, hx⟩ := hg
    obtain ⟨its, rv, p, hz⟩ := I.list hq
    obtain ⟨f0, f1, f2, f3, f4, f5⟩ := hf it (by simp)
    have hl := rv.length
    exact wpAny_pyNext_list_end (I.ok.hd hc) st p.isList (by simp; omega) fun h' eb => ⟨rfl, I.turned (t' := s.toks) (fun b o hb e => eb b o hb e) f0 f1 f3 f4 f5⟩
  self := fun _ _ _ _ _ st h => wpAny_pyIter_listiter st h
theorem turn_tuple {P : Program} {w : World} {K : PySem.W.Frag} {tg : Expr} (a it : Addr) : Turn P w K tg (Itt K a) [it] it (fun i h => h.IsTupleIter it a i) where
  mem := by simp
  obj := fun i h st b hb => by
    have e : b = it := by simpa using hb
    subst e
    obtain ⟨o, e, c, d⟩ := st
    exact ⟨o, e, fun v z => by rw [d] at z; cases z⟩
  keep := fun i h h' st k => st.at fun o e => k it (by simp) o e
  item := by
    intro X hP hw hK hc i pins s σ H E I hf st hg
    subst hP hw hK
    obtain ⟨xs, x, hq, hx⟩ := hg
    obtain ⟨its, rv, p, hz⟩ := I.tuple hq
    obtain ⟨u, hu, ru⟩ := rv.get hx
    obtain ⟨f0, f1, f2, f3, f4, f5⟩ := hf it (by simp)
    refine wpAny_pyNext_tuple_item st (show s.heap.IsTuple a its.toArray from p) (x := u) (by simpa using hu) fun h' st' sb => ?_
    have I1 : Inv X pins σ H { s with heap := h' } := I.turned (t' := s.toks) (fun b o hb e => (sb.2 b hb).trans e) f0 f1 f3 f4 f5
    obtain ⟨o, e, c, d⟩ := id st'
    exact ⟨u, rfl, go_of (s := { s with heap := h' }) e c d (by decide) ⟨x, H, I1, ru, ⟨rfl, fun ys hy => by rw [I.tuple_inj hy hq]; exact hx⟩, st', fun b hb => (hf b hb).1⟩⟩
  done := by
    intro X hP hw hK hc i pins s σ H E I hf st hg
    subst hP hw hK
    obtain ⟨xs, hq, hx⟩ := hg
    obtain ⟨its, rv, p, hz⟩ := I.tuple hq
    obtain ⟨f0, f1, f2, f3, f4, f5⟩ := hf it (by simp)
    have hl := rv.length
    exact wpAny_pyNext_tuple_end (I.ok.hd hc) st (show s.heap.IsTuple a its.toArray from p) (by simp; omega) fun h' eb => ⟨rfl, I.turned (t' := s.toks) (fun b o hb e => eb b o hb e) f0 f1 f3 f4 f5⟩
  self := fun _ _ _ _ _ st h => wpAny_pyIter_tupleiter st h
theorem turn_range {P : Program} {w : World} {K : PySem.W.Frag} {tg : Expr} (it : Addr) (lo : Int) (n : Nat) : Turn P w K tg (Itr lo n) [it] it (fun i h => IsRangeIter h it (lo + (i : Nat) * 1) ((n : Int) - (i : Nat)) 1) where
  mem := by simp
  obj := fun i h st b hb => by
    have e : b = it := by simpa using hb
    subst e
    exact ⟨_, st, fun v z => by
      have z' : Data.fields _ = Data.cell v := z
      cases z'⟩
  keep := fun i h h' st k => k it (by simp) _ st
  item := by
    intro X hP hw hK hc i pins s σ H E I hf st hg
    subst hP hw hK
    obtain ⟨f0, f1, f2, f3, f4, f5⟩ := hf it (by simp)
    have W := Walks.range (prog := X.prog) (w := X.w) (I.ok.hd hc) it lo 1 n
    refine W.item i s _ _ hg st fun v h' tk hv st' kk => ?_
    obtain ⟨t, rfl⟩ := hv
    have I1 : Inv X pins σ H { s with heap := h', toks := tk } := I.turned (fun b o hb e => kk b o (by simpa using hb) e) f0 f1 f3 f4 f5
    refine ⟨_, rfl, go_of (s := { s with heap := h', toks := tk }) (n := "range_iterator") st' rfl rfl (by decide) ⟨.int (lo + i), H, I1, ⟨t, ?_⟩, ⟨rfl, rfl⟩, st', fun b hb => (hf b hb).1⟩⟩
    rw [Int.mul_one]
  done := by
    intro X hP hw hK hc i pins s σ H E I hf st hg
    subst hP hw hK
    obtain ⟨f0, f1, f2, f3, f4, f5⟩ := hf it (by simp)
    exact wpAny_pyNext_range_end (I.ok.hd hc) st (by have : n ≤ i := hg; omega) fun h' eb => ⟨rfl, I.turned (t' := s.toks) (fun b o hb e => eb b o hb e) f0 f1 f3 f4 f5⟩
  self := fun _ _ _ _ _ st h => wpAny_pyIter_rangeiter st h
end L2
namespace L2
open PySem PySem.Spec PyProof.Rows
section
variable {X : Cx} {tg : Expr}
def iList (K : PySem.W.Frag) (tl : TE) : TI := fun σ H R => tl σ H fun x H1 => ∃ a, x = .ref a ∧ (∃ xs, SqL K H1 a xs) ∧ R (Itl K a) H1
def iTup (K : PySem.W.Frag) (tl : TE) : TI := fun σ H R => tl σ H fun x H1 => ∃ a, x = .ref a ∧ (∃ xs, SqT K H1 a xs) ∧ R (Itt K a) H1
theorem pi_list {l : Expr} {tl : TE} (hl : PE X l tl) : PI X tg l (iList X.K tl) := by
  intro pins s σ H R I h
  refine thn (hl pins s σ H _ I h) fun v s1 ⟨x, H1, I1, r1, q1⟩ => ?_
  obtain ⟨a, e, ⟨xs, hq⟩, q⟩ := q1
  subst e
  cases r1
  obtain ⟨its, rv, p, hz⟩ := I1.list hq
  refine wpAny_pyIter_list p.isList ?_
  refine ⟨s1.heap.objs.size, [s1.heap.objs.size], _, _, H1, rfl, I1.kept (t' := s1.toks) fun b o e => Heap.get?_push_of_some _ e, turn_list a _, ⟨_, Heap.get?_push_size _ rfl, rfl, rfl⟩, fun b hb => ?_, q⟩
  have e : b = s1.heap.objs.size := by simpa using hb
  subst e
  exact I1.fpOk (Nat.le_refl _) (I1.hok.fresh (Nat.le_refl _))
theorem pi_tup {l : Expr} {tl : TE} (hl : PE X l tl) : PI X tg l (iTup X.K tl) := by
  intro pins s σ H R I h
  refine thn (hl pins s σ H _ I h) fun v s1 ⟨x, H1, I1, r1, q1⟩ => ?_
  obtain ⟨a, e, ⟨xs, hq⟩, q⟩ := q1
  subst e
  cases r1
  obtain ⟨its, rv, p, hz⟩ := I1.tuple hq
  refine wpAny_pyIter_tuple (show s1.heap.IsTuple a its.toArray from p) ?_
  refine ⟨s1.heap.objs.size, [s1.heap.objs.size], _, _, H1, rfl, I1.kept (t' := s1.toks) fun b o e => Heap.get?_push_of_some _ e, turn_tuple a _, ⟨_, Heap.get?_push_size _ rfl, rfl, rfl⟩, fun b hb => ?_, q⟩
  have e : b = s1.heap.objs.size := by simpa using hb
  subst e
  exact I1.fpOk (Nat.le_refl _) (I1.hok.fresh (Nat.le_refl _))
theorem range_it {pins : List (Addr × Obj)} {σ : St} {H : Hp} {s : Shared} {R : It → Hp → Prop} {E : Value → Shared → Prop} {lo hi : Int} {t u v : Tok} {tk : Nat} (I : Inv X pins σ H s) (h1 : -(2 ^ 62) ≤ lo) (h2 : lo < 2 ^ 62) (h3 : -(2 ^ 62) ≤ hi) (h4 : hi < 2 ^ 62)
    (q : R (Itr lo (hi - lo).toNat) H) : wpAny (model X.prog X.w) X.A (pyIter (.ref s.heap.objs.size)) (PIE X pins σ tg R) E { s with heap := s.heap.push { cls := .type "range", data := .fields #[.int lo t, .int hi u, .int 1 v] }, toks := tk } := by
  refine wpAny_pyIter_range (IsRange.new ..) (small_one h1 h2 h3 h4) ?_
  have I1 : Inv X pins σ H { s with heap := s.heap.push { cls := .type "range", data := .fields #[.int lo t, .int hi u, .int 1 v] }, toks := tk } := I.kept fun b o e => Heap.get?_push_of_some _ e
  refine ⟨(s.heap.push { cls := .type "range", data := .fields #[.int lo t, .int hi u, .int 1 v] }).objs.size, [(s.heap.push { cls := .type "range", data := .fields #[.int lo t, .int hi u, .int 1 v] }).objs.size], _, _, H, rfl,
    I1.kept (t' := tk) fun b o e => Heap.get?_push_of_some _ e, turn_range _ lo (hi - lo).toNat, ?_, fun b hb => ?_, q⟩
  · have e1 : lo + ((0 : Nat) : Int) * 1 = lo := by simp
    have e2 : (((hi - lo).toNat : Nat) : Int) - ((0 : Nat) : Int) = Builtin.Range.rangeSize lo hi 1 := by rw [rangeSize_one]; split <;> omega
    show IsRangeIter _ _ (lo + ((0 : Nat) : Int) * 1) ((((hi - lo).toNat : Nat) : Int) - ((0 : Nat) : Int)) 1
    rw [e1, e2]
    exact Heap.get?_push_size _ rfl
  · have e : b = (s.heap.push { cls := .type "range", data := .fields #[.int lo t, .int hi u, .int 1 v] }).objs.size := by simpa using hb
    subst e
    exact I1.fpOk (Nat.le_refl _) (I1.hok.fresh (Nat.le_refl _))
def iRng1 (ta : TA) : TI := fun σ H R => ta σ H fun vs H1 => ∃ j : Int, vs = [.int j] ∧ -(2 ^ 62) ≤ j ∧ j < 2 ^ 62 ∧ R (Itr 0 j.toNat) H1
def iRng2 (ta : TA) : TI := fun σ H R => ta σ H fun vs H1 => ∃ i j : Int, vs = [.int i, .int j] ∧ (-(2 ^ 62) ≤ i ∧ i < 2 ^ 62 ∧ -(2 ^ 62) ≤ j ∧ j < 2 ^ 62) ∧ R (Itr i (j - i).toNat) H1
theorem pi_range1 {a : Expr} {ta : TA} {p pos : Pos} (hg : Gl X "range") (hm : X.mg "range" = none) (ha : PA X [a] ta) (hs : starEach [a] X.env = [(false, eval a X.env)] := by rfl) : PI X tg (.Call (.Name "range" p) [a] [] pos) (iRng1 ta) := by
  intro pins s σ H R I h
  refine Call_ (ld_blt I hg hm boot_range (PyProof.Rows.callWith_type1 (thn (ha pos pins s σ H _ I h) fun us s1 ⟨vs, H1, I1, r1, q1⟩ => ?_) hs rfl))
  obtain ⟨j, e, q1, q2, q⟩ := q1
  subst e
  cases r1 with
  | cons r rr =>
    cases rr
    obtain ⟨t, rfl⟩ := r
    exact call_range_1 (range_it I1 (by omega) (by omega) q1 q2 (by simpa using q))
def tFor (wi : TI) (g : TG) (tb : TS) : TS := fun D σ H => wi σ H fun J H1 => ∃ W : Nat → Nat → St → Hp → Prop, (∃ m, W 0 m σ H1) ∧ ∀ i m σ H, W i m σ H →
  (J.stop i H ∧ D.nx σ H) ∨ (J.go i H ∧ ∃ N : St → Hp → Prop, (∀ σ' H', N σ' H' → ∃ m', m' < m ∧ W (i + 1) m' σ' H') ∧ ∀ x H', J.yld i H x H' → g x σ H' fun σ2 H2 => tb { D with nx := N, ct := N, bk := D.nx } σ2 H2)
def pinsAt (fp : List Addr) (h : Heap) : List (Addr × Obj) := fp.filterMap fun b => (h.get? b).map fun o => (b, o)
theorem mem_pinsAt {fp : List Addr} {h : Heap} {b : Addr} {o : Obj} (hb : b ∈ fp) (e : h.get? b = some o) : (b, o) ∈ pinsAt fp h := List.mem_filterMap.mpr ⟨b, hb, by rw [e]; rfl⟩
theorem of_pinsAt {fp : List Addr} {h : Heap} {p : Addr × Obj} (hp : p ∈ pinsAt fp h) : p.1 ∈ fp ∧ h.get? p.1 = some p.2 := by
  obtain ⟨b, hb, e⟩ := List.mem_filterMap.mp hp
  cases q : h.get? b with
  | none => rw [q] at e; cases e
  | some o =>
    rw [q] at e
    have e' : (b, o) = p := Option.some.inj e
    subst e'
    exact ⟨hb, q⟩
theorem Inv.pinned {pins : List (Addr × Obj)} {σ : St} {H : Hp} {s : Shared} {fp : List Addr} (I : Inv X pins σ H s) (hf : ∀ b ∈ fp, FpOk X pins H b) (ho : ∀ b ∈ fp, ∃ o, s.heap.get? b = some o ∧ ∀ v, o.data ≠ .cell v) : Inv X (pins ++ pinsAt fp s.heap) σ H s :=
  I.pins_of fun p hp => (List.mem_append.mp hp).elim (fun z => I.pin p (List.mem_append_right _ z)) fun z => by
    obtain ⟨hb, e⟩ := of_pinsAt z
    obtain ⟨f0, f1, f2, _⟩ := hf p.1 hb
    obtain ⟨o, e', d⟩ := ho p.1 hb
    rw [e] at e'; cases e'
    exact ⟨e, f0, f1, f2, d⟩
theorem Inv.unpinned {pins pl : List (Addr × Obj)} {σ : St} {H : Hp} {s : Shared} (I : Inv X (pins ++ pl) σ H s) : Inv X pins σ H s := I.pins_of fun p hp => I.pin p (List.mem_append_right _ (List.mem_append_left _ hp))
theorem ps_for {iter : Expr} {body : List Stmt} {wi : TI} {g : TG} {tb : TS} {pos : Pos} (hp : PassesOwn (model X.prog X.w) X.A X.env X.xe) (hc : X.calm = true) (hi : PI X tg iter wi) (hg : PG X tg g) (hb : PSs X body tb)
    (hs : ∀ x, foldedSetIterable iter X.env x = pure x := by intro _; rfl) : PS X (.For tg iter body [] pos) (tFor wi g tb) := by
  intro pins s σ H D I h
  refine wpAny_For (thn (hi pins s σ H _ I h) fun v s1 h1 => thn h1 fun itv s2 h2 => ?_) hs
  obtain ⟨it, fp, tn, J, H2, e, I2, T, st2, f2, W, ⟨m0, w0⟩, turn⟩ := h2
  subst e
  have stat : ∀ {H' : Hp}, (∀ b ∈ fp, H' b = none) → ∀ b ∈ fp, FpOk X pins H' b := fun hn b hb => ⟨hn b hb, (f2 b hb).2⟩
  refine codeAny_forLoop_any (fun n s' => ∃ i σ' H', Inv X pins σ' H' s' ∧ tn i s'.heap ∧ (∀ b ∈ fp, H' b = none) ∧ W i n σ' H') ?_ m0 ⟨0, σ, H2, I2, st2, fun b hb => (f2 b hb).1, w0⟩
  rintro n s3 ⟨i, σ3, H3, I3, st3, fr3, w3⟩
  rcases turn i n σ3 H3 w3 with ⟨stop, qn⟩ | ⟨go, N, hN, step⟩
  · refine wpAny_passesOwn hp (thn (T.done X rfl rfl rfl hc i pins s3 σ3 H3 X.xe I3 (stat fr3) st3 stop) fun r s4 ⟨hr, I4⟩ => ?_)
    subst hr
    exact wpAny_execs_nil ⟨σ3, H3, I4, qn⟩
  · refine wpAny_passesOwn hp (thn (T.item X rfl rfl rfl hc i pins s3 σ3 H3 X.xe I3 (stat fr3) st3 go) fun r s4 ⟨u, hr, h4⟩ => ?_)
    subst hr
    refine wpAny_passesOwn hp (thn h4 fun _ s5 ⟨x, H5, I5, r5, y5, st5, fr5⟩ => ?_)
    have I5' := I5.pinned (stat fr5) (T.obj _ _ st5)
    refine wpAny_passesOwn hp (thn (hg _ s5 σ3 H5 x u _ I5' r5 (step x H5 y5)) fun _ s6 ⟨σ6, H6, I6, q6⟩ => ?_)
    refine wpAny_passesOwn hp (thn (hb _ s6 σ6 H6 _ I6 q6) fun f s7 q7 => ?_)
    have again : ∀ {σ7 : St} {H7 : Hp}, Inv X (pins ++ pinsAt fp s5.heap) σ7 H7 s7 → N σ7 H7 → ∃ m, m < n ∧ ∃ i σ' H', Inv X pins σ' H' s7 ∧ tn i s7.heap ∧ (∀ b ∈ fp, H' b = none) ∧ W i m σ' H' := fun {σ7 H7} I7 n7 => by
      obtain ⟨m', hm, w7⟩ := hN σ7 H7 n7
      refine ⟨m', hm, i + 1, σ7, H7, I7.unpinned, T.keep _ _ _ st5 fun b hb o e => (I7.pin (b, o) (List.mem_append_right _ (List.mem_append_right _ (mem_pinsAt hb e)))).1, fun b hb => ?_, w7⟩
      obtain ⟨o, e, d⟩ := T.obj _ _ st5 b hb
      exact (I7.pin (b, o) (List.mem_append_right _ (List.mem_append_right _ (mem_pinsAt hb e)))).2.1
    cases f with
    | next => obtain ⟨σ7, H7, I7, n7⟩ := q7; exact again I7 n7
    | cont => obtain ⟨σ7, H7, I7, n7⟩ := q7; exact again I7 n7
    | brk => obtain ⟨σ7, H7, I7, q7⟩ := q7; exact ⟨σ7, H7, I7.unpinned, q7⟩
    | ret v => obtain ⟨x7, σ7, H7, I7, r7, q7⟩ := q7; exact ⟨x7, σ7, H7, I7.unpinned, r7, q7⟩
end
theorem for_list {K : PySem.W.Frag} {a : Addr} {xs : List V} {g : TG} {tb : TS} {D : Ends} {σ : St} {H : Hp} (Pv : Nat → St → Hp → Prop) (h0 : Pv 0 σ H) (hl : ∀ i σ H, i ≤ xs.length → Pv i σ H → SqL K H a xs)
    (hs : ∀ i x σ H, xs[i]? = some x → Pv i σ H → g x σ H fun σ2 H2 => tb { D with nx := Pv (i + 1), ct := Pv (i + 1), bk := D.nx } σ2 H2) (hd : ∀ σ H, Pv xs.length σ H → D.nx σ H) :
    ∃ W : Nat → Nat → St → Hp → Prop, (∃ m, W 0 m σ H) ∧ ∀ i m σ H, W i m σ H →
      ((Itl K a).stop i H ∧ D.nx σ H) ∨ ((Itl K a).go i H ∧ ∃ N : St → Hp → Prop, (∀ σ' H', N σ' H' → ∃ m', m' < m ∧ W (i + 1) m' σ' H') ∧ ∀ x H', (Itl K a).yld i H x H' → g x σ H' fun σ2 H2 => tb { D with nx := N, ct := N, bk := D.nx } σ2 H2) := by
  refine ⟨fun i m σ H => m = xs.length - i ∧ i ≤ xs.length ∧ Pv i σ H, ⟨xs.length, by simp, Nat.zero_le _, h0⟩, ?_⟩
  rintro i m σ H ⟨rfl, hi, p⟩
  have q := hl i σ H hi p
  by_cases hlt : i < xs.length
  · refine .inr ⟨⟨xs, xs[i], q, by simp [hlt]⟩, Pv (i + 1), fun σ' H' p' => ⟨xs.length - (i + 1), by omega, rfl, hlt, p'⟩, fun x H' y => ?_⟩
    obtain ⟨e, y⟩ := y
    subst e
    exact hs i x σ _ (y xs q) p
  · have e : i = xs.length := by omega
    subst e
    exact .inl ⟨⟨xs, q, Nat.le_refl _⟩, hd σ H p⟩
theorem for_tup {K : PySem.W.Frag} {a : Addr} {xs : List V} {g : TG} {tb : TS} {D : Ends} {σ : St} {H : Hp} (Pv : Nat → St → Hp → Prop) (h0 : Pv 0 σ H) (hl : ∀ i σ H, i ≤ xs.length → Pv i σ H → SqT K H a xs)
    (hs : ∀ i x σ H, xs[i]? = some x → Pv i σ H → g x σ H fun σ2 H2 => tb { D with nx := Pv (i + 1), ct := Pv (i + 1), bk := D.nx } σ2 H2) (hd : ∀ σ H, Pv xs.length σ H → D.nx σ H) :
    ∃ W : Nat → Nat → St → Hp → Prop, (∃ m, W 0 m σ H) ∧ ∀ i m σ H, W i m σ H →
      ((Itt K a).stop i H ∧ D.nx σ H) ∨ ((Itt K a).go i H ∧ ∃ N : St → Hp → Prop, (∀ σ' H', N σ' H' → ∃ m', m' < m ∧ W (i + 1) m' σ' H') ∧ ∀ x H', (Itt K a).yld i H x H' → g x σ H' fun σ2 H2 => tb { D with nx := N, ct := N, bk := D.nx } σ2 H2) := by
  refine ⟨fun i m σ H => m = xs.length - i ∧ i ≤ xs.length ∧ Pv i σ H, ⟨xs.length, by simp, Nat.zero_le _, h0⟩, ?_⟩
  rintro i m σ H ⟨rfl, hi, p⟩
  have q := hl i σ H hi p
  by_cases hlt : i < xs.length
  · refine .inr ⟨⟨xs, xs[i], q, by simp [hlt]⟩, Pv (i + 1), fun σ' H' p' => ⟨xs.length - (i + 1), by omega, rfl, hlt, p'⟩, fun x H' y => ?_⟩
    obtain ⟨e, y⟩ := y
    subst e
    exact hs i x σ _ (y xs q) p
  · have e : i = xs.length := by omega
    subst e
    exact .inl ⟨⟨xs, q, Nat.le_refl _⟩, hd σ H p⟩
theorem for_range {lo : Int} {n : Nat} {g : TG} {tb : TS} {D : Ends} {σ : St} {H : Hp} (Pv : Nat → St → Hp → Prop) (h0 : Pv 0 σ H)
    (hs : ∀ i σ H, i < n → Pv i σ H → g (.int (lo + i)) σ H fun σ2 H2 => tb { D with nx := Pv (i + 1), ct := Pv (i + 1), bk := D.nx } σ2 H2) (hd : ∀ σ H, Pv n σ H → D.nx σ H) :
    ∃ W : Nat → Nat → St → Hp → Prop, (∃ m, W 0 m σ H) ∧ ∀ i m σ H, W i m σ H →
      ((Itr lo n).stop i H ∧ D.nx σ H) ∨ ((Itr lo n).go i H ∧ ∃ N : St → Hp → Prop, (∀ σ' H', N σ' H' → ∃ m', m' < m ∧ W (i + 1) m' σ' H') ∧ ∀ x H', (Itr lo n).yld i H x H' → g x σ H' fun σ2 H2 => tb { D with nx := N, ct := N, bk := D.nx } σ2 H2) := by
  refine ⟨fun i m σ H => m = n - i ∧ i ≤ n ∧ Pv i σ H, ⟨n, by simp, Nat.zero_le _, h0⟩, ?_⟩
  rintro i m σ H ⟨rfl, hi, p⟩
  by_cases hlt : i < n
  · refine .inr ⟨hlt, Pv (i + 1), fun σ' H' p' => ⟨n - (i + 1), by omega, rfl, hlt, p'⟩, fun x H' y => ?_⟩
    obtain ⟨e, y⟩ := y
    subst e y
    exact hs i σ _ hlt p
  · have e : i = n := by omega
    subst e
    exact .inl ⟨Nat.le_refl _, hd σ H p⟩
end L2
namespace L2
open PySem PySem.Spec PyProof.Rows
abbrev R2 := V → V → Hp → VK → Prop
def OpR (X : Cx) (f : Value → Value → Sem Value) (r : R2) : Prop :=
  ∀ (pins : List (Addr × Obj)) (s : Shared) (σ : St) (H : Hp) (x y : V) (v u : Value) (Q : VK), Inv X pins σ H s → RelV x v → RelV y u → r x y H Q →
    wpAny (model X.prog X.w) X.A (f v u) (EP X pins σ Q) X.xe s
def UnR (X : Cx) (f : Value → Sem Value) (r : V → Hp → VK → Prop) : Prop :=
  ∀ (pins : List (Addr × Obj)) (s : Shared) (σ : St) (H : Hp) (x : V) (v : Value) (Q : VK), Inv X pins σ H s → RelV x v → r x H Q →
    wpAny (model X.prog X.w) X.A (f v) (EP X pins σ Q) X.xe s
def CallR (X : Cx) (f : Value) (r : List V → Hp → VK → Prop) : Prop :=
  ∀ (pins : List (Addr × Obj)) (s : Shared) (σ : St) (H : Hp) (xs : List V) (us : List Value) (Q : VK), Inv X pins σ H s → Vals xs us → r xs H Q →
    wpAny (model X.prog X.w) X.A (call f us) (EP X pins σ Q) X.xe s
def tOp (r : R2) (ta tb : TE) : TE := fun σ H Q => ta σ H fun x H1 => tb σ H1 fun y H2 => r x y H2 Q
def tUn (r : V → Hp → VK → Prop) (ta : TE) : TE := fun σ H Q => ta σ H fun x H1 => r x H1 Q
def rI (C : Int → Int → Prop) (g : Int → Int → V) : R2 := fun x y H Q => ∃ i j, x = .int i ∧ y = .int j ∧ C i j ∧ Q (g i j) H
def rI0 (g : Int → Int → V) : R2 := fun x y H Q => ∃ i j, x = .int i ∧ y = .int j ∧ Q (g i j) H
def rU (g : Int → V) : V → Hp → VK → Prop := fun x H Q => ∃ i, x = .int i ∧ Q (g i) H
section
variable {X : Cx} {a b c : Expr} {ta tb tc : TE} {pos : Pos}
theorem binT (ha : PE X a ta) (hb : PE X b tb) {pins : List (Addr × Obj)} {s : Shared} {σ : St} {H : Hp} {R : V → V → Hp → Prop} (I : Inv X pins σ H s)
    (h : ta σ H fun x H1 => tb σ H1 fun y H2 => R x y H2) {Q : Value → Shared → Prop} {f : Value → Value → Sem Value}
    (hf : ∀ v u s2 x y H2, Inv X pins σ H2 s2 → RelV x v → RelV y u → R x y H2 → wpAny (model X.prog X.w) X.A (f v u) Q X.xe s2) :
    wpAny (model X.prog X.w) X.A (eval a X.env) (fun v s₁ => wpAny (model X.prog X.w) X.A (eval b X.env) (fun u s₂ => wpAny (model X.prog X.w) X.A (f v u) Q X.xe s₂) X.xe s₁) X.xe s := by
  refine thn (ha pins s σ H _ I h) fun v s1 ⟨x, H1, I1, r1, q1⟩ => ?_
  refine thn (hb pins s1 σ H1 _ I1 q1) fun u s2 ⟨y, H2, I2, r2, q2⟩ => ?_
  exact hf v u s2 x y H2 I2 r1 r2 q2
theorem pe_op {op : Operator} {r : R2} (ho : OpR X (binaryOp op) r) (ha : PE X a ta) (hb : PE X b tb) : PE X (.BinOp a op b pos) (tOp r ta tb) := by
  intro pins s σ H Q I h
  exact wpAny_BinOp (binT ha hb I h fun v u s2 x y H2 I2 rx ry q => ho pins s2 σ H2 x y v u Q I2 rx ry q)
theorem pe_un {op : UnaryOp} {r : V → Hp → VK → Prop} (ho : UnR X (unaryOp op) r) (ha : PE X a ta) : PE X (.UnaryOp op a pos) (tUn r ta) := by
  intro pins s σ H Q I h
  exact UnaryOp_ (thn (ha pins s σ H _ I h) fun v s1 ⟨x, H1, I1, r1, q1⟩ => ho pins s1 σ H1 x v Q I1 r1 q1)
theorem opI {f : Value → Value → Sem Value} {C : Int → Int → Prop} {g : Int → Int → Int}
    (rule : ∀ (i j : Int) (t u : Tok) (s : Shared) (Q : Value → Shared → Prop) (E : Value → Shared → Prop), C i j → Q (.int (g i j) s.toks) { s with toks := s.toks + 1 } → wpAny (model X.prog X.w) X.A (f (.int i t) (.int j u)) Q E s) :
    OpR X f (rI C fun i j => .int (g i j)) := by
  intro pins s σ H x y v u Q I rx ry h
  obtain ⟨i, j, rfl, rfl, hc, q⟩ := h
  obtain ⟨t, rfl⟩ := rx
  obtain ⟨t', rfl⟩ := ry
  exact rule i j t t' s _ _ hc ⟨.int (g i j), H, I.tok _, ⟨_, rfl⟩, q⟩
theorem opI0 {f : Value → Value → Sem Value} {g : Int → Int → Int}
    (rule : ∀ (i j : Int) (t u : Tok) (s : Shared) (Q : Value → Shared → Prop) (E : Value → Shared → Prop), Q (.int (g i j) s.toks) { s with toks := s.toks + 1 } → wpAny (model X.prog X.w) X.A (f (.int i t) (.int j u)) Q E s) :
    OpR X f (rI0 fun i j => .int (g i j)) := by
  intro pins s σ H x y v u Q I rx ry h
  obtain ⟨i, j, rfl, rfl, q⟩ := h
  obtain ⟨t, rfl⟩ := rx
  obtain ⟨t', rfl⟩ := ry
  exact rule i j t t' s _ _ ⟨.int (g i j), H, I.tok _, ⟨_, rfl⟩, q⟩
theorem opB0 {f : Value → Value → Sem Value} {g : Int → Int → Bool}
    (rule : ∀ (i j : Int) (t u : Tok) (s : Shared) (Q : Value → Shared → Prop) (E : Value → Shared → Prop), Q (.bool (g i j)) s → wpAny (model X.prog X.w) X.A (f (.int i t) (.int j u)) Q E s) :
    OpR X f (rI0 fun i j => .bl (g i j)) := by
  intro pins s σ H x y v u Q I rx ry h
  obtain ⟨i, j, rfl, rfl, q⟩ := h
  obtain ⟨t, rfl⟩ := rx
  obtain ⟨t', rfl⟩ := ry
  exact rule i j t t' s _ _ ⟨.bl (g i j), H, I, rfl, q⟩
def CDiv (i j : Int) : Prop := 0 < j ∧ j < 1073741824
def CDivN (i j : Int) : Prop := j ≠ 0 ∧ j.natAbs < 1073741824
def CPow (i j : Int) : Prop := 0 ≤ j ∧ j ≤ 1000000 ∧ i.natAbs < 2 ^ 64
def CMul (i j : Int) : Prop := (-(2 ^ 64) < i ∧ i < 2 ^ 64) ∨ (-(2 ^ 64) < j ∧ j < 2 ^ 64)
theorem CMul.ok {i j : Int} (h : CMul i j) : IntMulOk i j := by
  rcases h with ⟨h1, h2⟩ | ⟨h1, h2⟩
  · exact .of_left (intBits_le_64 h1 h2)
  · exact .of_right (intBits_le_64 h1 h2)
theorem op_add : OpR X (binaryOp .Add) (rI0 fun i j => .int (i + j)) := opI0 fun _ _ _ _ _ _ _ q => add_int q
theorem op_sub : OpR X (binaryOp .Sub) (rI0 fun i j => .int (i - j)) := opI0 fun _ _ _ _ _ _ _ q => sub_int q
theorem op_mul : OpR X (binaryOp .Mult) (rI CMul fun i j => .int (i * j)) := opI fun _ _ _ _ _ _ _ hc q => mul_int q hc.ok
theorem op_fdiv : OpR X (binaryOp .FloorDiv) (rI CDiv fun i j => .int (i / j)) := opI fun i j _ _ _ _ _ hc q => by
  have h1 : (0 : Int) < j := hc.1
  have h2 : j < 1073741824 := hc.2
  exact floordiv_int (by omega) (by rw [Int.fdiv_eq_ediv_of_nonneg i (by omega)]; exact q) (.inl (PyProof.noPylong_small (by omega)))
theorem op_mod : OpR X (binaryOp .Mod) (rI (fun _ j => 0 < j) fun i j => .int (i % j)) := opI fun i j _ _ _ _ _ hc q => by
  have h1 : (0 : Int) < j := hc
  exact mod_int' (by omega) (by rw [Int.fmod_eq_emod_of_nonneg i (by omega)]; exact q)
theorem op_modN : OpR X (binaryOp .Mod) (rI (fun _ j => j ≠ 0) fun i j => .int (i.fmod j)) := opI fun _ _ _ _ _ _ _ hc q => mod_int' hc q
theorem op_pow : OpR X (binaryOp .Pow) (rI CPow fun i j => .int (i ^ j.toNat)) := opI fun _ _ _ _ _ _ _ hc q => pow_int_small hc.1 hc.2.1 hc.2.2 q
theorem unI {f : Value → Sem Value} {g : Int → Int}
    (rule : ∀ (i : Int) (t : Tok) (s : Shared) (Q : Value → Shared → Prop) (E : Value → Shared → Prop), Q (.int (g i) s.toks) { s with toks := s.toks + 1 } → wpAny (model X.prog X.w) X.A (f (.int i t)) Q E s) :
    UnR X f (rU fun i => .int (g i)) := by
  intro pins s σ H x v Q I rx h
  obtain ⟨i, rfl, q⟩ := h
  obtain ⟨t, rfl⟩ := rx
  exact rule i t s _ _ ⟨.int (g i), H, I.tok _, ⟨_, rfl⟩, q⟩
theorem un_neg : UnR X (unaryOp .USub) (rU fun i => .int (-i)) := unI fun _ _ _ _ _ q => neg_int q
end
def scal : V → V → Bool
  | .non, .non => true | .non, .int _ => true | .int _, .non => true | .non, .bl _ => true | .bl _, .non => true | .non, .str _ => true | .str _, .non => true
  | .int _, .int _ => true | .bl _, .bl _ => true | .str _, .str _ => true | .byt _, .byt _ => true
  | .int _, .str _ => true | .str _, .int _ => true | .bl _, .str _ => true | .str _, .bl _ => true
  | _, _ => false
def rEq : R2 := fun x y H Q => scal x y = true ∧ Q (.bl (decide (x = y))) H
def rNe : R2 := fun x y H Q => scal x y = true ∧ Q (.bl (!decide (x = y))) H
theorem dec_int {i j : Int} : decide (V.int i = V.int j) = (i == j) := by
  rw [Bool.eq_iff_iff]
  simp
theorem dec_bl {i j : Bool} : decide (V.bl i = V.bl j) = (i == j) := by
  rw [Bool.eq_iff_iff]
  simp
theorem dec_str {i j : Str} : decide (V.str i = V.str j) = (i == j) := by
  rw [Bool.eq_iff_iff]
  simp
theorem dec_byt {i j : Array UInt8} : decide (V.byt i = V.byt j) = (i.toList == j.toList) := by
  rw [Bool.eq_iff_iff]
  cases i
  cases j
  simp
section
variable {X : Cx} {a b c : Expr} {ta tb tc : TE} {pos : Pos}
theorem fin_bl {pins : List (Addr × Obj)} {σ : St} {H : Hp} {s : Shared} {Q : VK} {k k' : Bool} (I : Inv X pins σ H s) (q : Q (.bl k) H) (e : k = k') : EP X pins σ Q (.bool k') s := by
  subst e
  exact ⟨.bl k, H, I, rfl, q⟩
theorem op_eq : OpR X (compareOp .Eq) rEq := by
  intro pins s σ H x y v u Q I rx ry h
  obtain ⟨hs, q⟩ := h
  cases x with
  | non =>
    cases rx
    cases y with
    | non => cases ry; exact PySem.EqNone.eq_none_none (fin_bl I q (by simp))
    | bl j => cases ry; exact PySem.EqNone.eq_none_bool (fin_bl I q (by simp))
    | int j => obtain ⟨t', rfl⟩ := ry; exact PySem.EqNone.eq_none_int (fin_bl I q (by simp))
    | str j => obtain ⟨t', rfl⟩ := ry; exact PySem.EqNone.eq_none_str (fin_bl I q (by simp))
    | _ => exact absurd (show false = true from hs) Bool.false_ne_true
  | bl i =>
    cases rx
    cases y with
    | non => cases ry; exact PySem.EqNone.eq_bool_none (fin_bl I q (by simp))
    | bl j => cases ry; exact eq_bool (fin_bl I q dec_bl)
    | str j => obtain ⟨t', rfl⟩ := ry; exact PySem.EqMixed.eq_bool_str (fin_bl I q (by simp))
    | _ => exact absurd (show false = true from hs) Bool.false_ne_true
  | int i =>
    obtain ⟨t, rfl⟩ := rx
    cases y with
    | non => cases ry; exact PySem.EqNone.eq_int_none (fin_bl I q (by simp))
    | int j => obtain ⟨t', rfl⟩ := ry; exact eq_int (fin_bl I q dec_int)
    | str j => obtain ⟨t', rfl⟩ := ry; exact PySem.EqMixed.eq_int_str (fin_bl I q (by simp))
    | _ => exact absurd (show false = true from hs) Bool.false_ne_true
  | str i =>
    obtain ⟨t, rfl⟩ := rx
    cases y with
    | non => cases ry; exact PySem.EqNone.eq_str_none (fin_bl I q (by simp))
    | bl j => cases ry; exact PySem.EqMixed.eq_str_bool (fin_bl I q (by simp))
    | int j => obtain ⟨t', rfl⟩ := ry; exact PySem.EqMixed.eq_str_int (fin_bl I q (by simp))
    | str j => obtain ⟨t', rfl⟩ := ry; exact eq_str (fin_bl I q dec_str)
    | _ => exact absurd (show false = true from hs) Bool.false_ne_true
  | byt i =>
    obtain ⟨t, rfl⟩ := rx
    cases y with
    | byt j => obtain ⟨t', rfl⟩ := ry; exact PySem.W.eq_bytes (fin_bl I q dec_byt)
    | _ => exact absurd (show false = true from hs) Bool.false_ne_true
  | _ => cases y <;> exact absurd (show false = true from hs) Bool.false_ne_true
theorem op_ne : OpR X (compareOp .NotEq) rNe := by
  intro pins s σ H x y v u Q I rx ry h
  obtain ⟨hs, q⟩ := h
  cases x with
  | non =>
    cases rx
    cases y with
    | non => cases ry; exact PySem.EqNone.ne_none_none (fin_bl I q (by simp))
    | bl j => cases ry; exact PySem.EqNone.ne_none_bool (fin_bl I q (by simp))
    | int j => obtain ⟨t', rfl⟩ := ry; exact PySem.EqNone.ne_none_int (fin_bl I q (by simp))
    | str j => obtain ⟨t', rfl⟩ := ry; exact PySem.EqNone.ne_none_str (fin_bl I q (by simp))
    | _ => exact absurd (show false = true from hs) Bool.false_ne_true
  | bl i =>
    cases rx
    cases y with
    | non => cases ry; exact PySem.EqNone.ne_bool_none (fin_bl I q (by simp))
    | bl j => cases ry; exact ne_bool (fin_bl I q (congrArg not dec_bl))
    | str j => obtain ⟨t', rfl⟩ := ry; exact PySem.EqMixed.ne_bool_str (fin_bl I q (by simp))
    | _ => exact absurd (show false = true from hs) Bool.false_ne_true
  | int i =>
    obtain ⟨t, rfl⟩ := rx
    cases y with
    | non => cases ry; exact PySem.EqNone.ne_int_none (fin_bl I q (by simp))
    | int j => obtain ⟨t', rfl⟩ := ry; exact ne_int (fin_bl I q (congrArg not dec_int))
    | str j => obtain ⟨t', rfl⟩ := ry; exact PySem.EqMixed.ne_int_str (fin_bl I q (by simp))
    | _ => exact absurd (show false = true from hs) Bool.false_ne_true
  | str i =>
    obtain ⟨t, rfl⟩ := rx
    cases y with
    | non => cases ry; exact PySem.EqNone.ne_str_none (fin_bl I q (by simp))
    | bl j => cases ry; exact PySem.EqMixed.ne_str_bool (fin_bl I q (by simp))
    | int j => obtain ⟨t', rfl⟩ := ry; exact PySem.EqMixed.ne_str_int (fin_bl I q (by simp))
    | str j => obtain ⟨t', rfl⟩ := ry; exact ne_str (fin_bl I q (congrArg not dec_str))
    | _ => exact absurd (show false = true from hs) Bool.false_ne_true
  | byt i =>
    obtain ⟨t, rfl⟩ := rx
    cases y with
    | byt j => obtain ⟨t', rfl⟩ := ry; exact PySem.W.ne_bytes (fin_bl I q (congrArg not dec_byt))
    | _ => exact absurd (show false = true from hs) Bool.false_ne_true
  | _ => cases y <;> exact absurd (show false = true from hs) Bool.false_ne_true
theorem op_lt : OpR X (compareOp .Lt) (rI0 fun i j => .bl (decide (i < j))) := opB0 fun _ _ _ _ _ _ _ q => lt_int q
theorem op_le : OpR X (compareOp .LtE) (rI0 fun i j => .bl (decide (i ≤ j))) := opB0 fun _ _ _ _ _ _ _ q => le_int q
theorem op_gt : OpR X (compareOp .Gt) (rI0 fun i j => .bl (decide (j < i))) := opB0 fun _ _ _ _ _ _ _ q => gt_int q
theorem op_ge : OpR X (compareOp .GtE) (rI0 fun i j => .bl (decide (j ≤ i))) := opB0 fun _ _ _ _ _ _ _ q => ge_int q
theorem nomark (b : Expr) {op : CmpOp} (h : op ≠ .In := by decide) (h2 : op ≠ .NotIn := by decide) : behindInMarks op b = false := by
  have e1 : (op == CmpOp.In) = false := by cases op <;> first | rfl | exact absurd rfl h
  have e2 : (op == CmpOp.NotIn) = false := by cases op <;> first | rfl | exact absurd rfl h2
  cases b <;> simp [behindInMarks, e1, e2]
theorem pe_cmpR {op : CmpOp} {r : R2} (ho : OpR X (compareOp op) r) (ha : PE X a ta) (hb : PE X b tb) (hm : behindInMarks op b = false) : PE X (.Compare a [op] [b] pos) (tOp r ta tb) := by
  intro pins s σ H Q I h
  exact wpAny_Compare1 (binT ha hb I h fun v u s2 x y H2 I2 rx ry q => ho pins s2 σ H2 x y v u Q I2 rx ry q) hm
def tTest (t : TE) : TT := fun σ H Q => t σ H fun x H' => ∃ k, x = .bl k ∧ Q k H'
theorem pt_cmpR {op : CmpOp} {r : R2} (ho : OpR X (compareOp op) r) (ha : PE X a ta) (hb : PE X b tb) (hm : behindInMarks op b = false) : PT X (.Compare a [op] [b] pos) (tTest (tOp r ta tb)) := by
  intro pins s σ H Q I h
  refine wpAny_isTrue_Compare1 (thn (ha pins s σ H _ I h) fun v s1 ⟨x, H1, I1, r1, q1⟩ => thn (hb pins s1 σ H1 _ I1 q1) fun u s2 ⟨y, H2, I2, r2, q2⟩ =>
    thn (ho pins s2 σ H2 x y v u _ I2 r1 r2 q2) fun c s3 ⟨z, H3, I3, r3, k, e, q3⟩ => ?_) hm
  subst e
  cases r3
  exact wpAny_truthy_bool ⟨H3, I3, q3⟩
def tChain (r r' : R2) (ta tb tc : TE) : TE := fun σ H Q => ta σ H fun x H1 => tb σ H1 fun y H2 => r x y H2 fun z H3 => ∃ k, z = .bl k ∧
  (if k = true then tc σ H3 fun w' H4 => r' y w' H4 Q else Q (.bl false) H3)
theorem pt_chain {op op' : CmpOp} {r r' : R2} (ho : OpR X (compareOp op) r) (ho' : OpR X (compareOp op') r') (ha : PE X a ta) (hb : PE X b tb) (hc : PE X c tc)
    (hm : lastMarks [op, op'] [b, c] = false := by with_unfolding_all rfl) : PT X (.Compare a [op, op'] [b, c] pos) (tTest (tChain r r' ta tb tc)) := by
  intro pins s σ H Q I h
  refine isTrue_chain (thn (ha pins s σ H _ I h) fun v s1 ⟨x, H1, I1, r1, q1⟩ => test_link (thn (hb pins s1 σ H1 _ I1 q1) fun u s2 ⟨y, H2, I2, r2, q2⟩ =>
    thn (ho pins s2 σ H2 x y v u _ I2 r1 r2 q2) fun d s3 ⟨z, H3, I3, r3, k, e, q3⟩ => ?_)) hm
  subst e
  cases r3
  refine wpAny_truthy_bool ?_
  cases k with
  | false =>
    obtain ⟨k', e', q'⟩ := q3
    cases e'
    exact ite_ff ⟨H3, I3, q'⟩
  | true =>
    refine ite_tt (test_last (thn (hc pins s3 σ H3 _ I3 q3) fun w' s4 ⟨z', H4, I4, r4, q4⟩ => thn (ho' pins s4 σ H4 y z' u w' _ I4 r2 r4 q4) fun d' s5 ⟨z2, H5, I5, r5, k2, e2, q5⟩ => ?_))
    subst e2
    cases r5
    exact wpAny_truthy_bool ⟨H5, I5, q5⟩
theorem line63 : (sizeLine : Nat) < 2 ^ 63 := by rw [sizeLine_eq]; decide
theorem op_add_str : OpR X (binaryOp .Add) (fun x y H Q => ∃ i j, x = .str i ∧ y = .str j ∧ i.length + j.length ≤ sizeLine ∧ Q (.str (i ++ j)) H) := by
  intro pins s σ H x y v u Q I rx ry h
  obtain ⟨i, j, rfl, rfl, hz, q⟩ := h
  obtain ⟨t, rfl⟩ := rx
  obtain ⟨t', rfl⟩ := ry
  exact add_str (fun t' tk => ⟨.str (i ++ j), H, I.tok _, ⟨_, rfl⟩, q⟩) hz
theorem vals1 {x : V} {us : List Value} (r : Vals [x] us) : ∃ u, us = [u] ∧ RelV x u := by
  cases r with
  | cons r1 r2 => cases r2; exact ⟨_, rfl, r1⟩
theorem vals2 {x y : V} {us : List Value} (r : Vals [x, y] us) : ∃ u w', us = [u, w'] ∧ RelV x u ∧ RelV y w' := by
  cases r with
  | cons r1 r2 =>
    cases r2 with
    | cons r3 r4 => cases r4; exact ⟨_, _, rfl, r1, r3⟩
theorem call_max2 (hc : X.calm = true) : CallR X (.builtin "max") (fun xs H Q => ∃ i j, xs = [.int i, .int j] ∧ Q (.int (if j > i then j else i)) H) := by
  intro pins s σ H xs us Q I r h
  obtain ⟨i, j, rfl, q⟩ := h
  obtain ⟨u, w', rfl, ⟨t, rfl⟩, ⟨t', rfl⟩⟩ := vals2 r
  refine max_two_ints (I.ok.hd hc) fun h' tk k => ⟨_, H, I.kept k, ?_, q⟩
  by_cases hj : j > i
  · rw [if_pos hj, if_pos hj]; exact ⟨_, rfl⟩
  · rw [if_neg hj, if_neg hj]; exact ⟨_, rfl⟩
theorem call_min2 (hc : X.calm = true) : CallR X (.builtin "min") (fun xs H Q => ∃ i j, xs = [.int i, .int j] ∧ Q (.int (if j < i then j else i)) H) := by
  intro pins s σ H xs us Q I r h
  obtain ⟨i, j, rfl, q⟩ := h
  obtain ⟨u, w', rfl, ⟨t, rfl⟩, ⟨t', rfl⟩⟩ := vals2 r
  refine min_two_ints (I.ok.hd hc) fun h' tk k => ⟨_, H, I.kept k, ?_, q⟩
  by_cases hj : j < i
  · rw [if_pos hj, if_pos hj]; exact ⟨_, rfl⟩
  · rw [if_neg hj, if_neg hj]; exact ⟨_, rfl⟩
end
end L2
namespace L2
open PySem PySem.Spec PyProof.Rows
structure ObjM (h : Heap) (x dx C : Addr) (mA : Str → Option Value) : Prop where
  obj : h.get? x = some (PySem.W.instObj C dx)
  ns : h.Ns1 dx mA
  ne : dx ≠ x
theorem lookIn_ns {h : Heap} {dx : Addr} {mA : Str → Option Value} (n : h.Ns1 dx mA) : ∃ od, h.get? dx = some od ∧ ∀ name, PySem.W.lookIn name od = some (mA name) := by
  obtain ⟨o, es, ep, ho, hd, hk, _, hm⟩ := n
  refine ⟨o, ho, fun name => ?_⟩
  have e := hm name
  unfold nsFind findBy at e
  rw [← Array.find?_toList] at e
  unfold PySem.W.lookIn
  rw [hd]
  dsimp only
  split
  · rename_i y q
    rw [q] at e
    exact congrArg some e
  · rename_i q
    rw [q] at e
    have a : es.toList.any (·.refKey) = false := by
      rw [List.any_eq_false]
      intro y hy
      obtain ⟨z, t, hkey⟩ := hk y (Array.mem_toList_iff.mp hy)
      simp [DictEntry.refKey, hkey]
    have a' : ¬ es.toList.any (·.refKey) = true := by rw [a]; exact Bool.false_ne_true
    rw [if_neg a']
    exact congrArg some e
theorem ObjM.look {h : Heap} {x dx C : Addr} {mA : Str → Option Value} (I : ObjM h x dx C mA) : ∃ od, PySem.W.InstAt h x (PySem.W.instObj C dx) C (some od) ∧ ∀ name, PySem.W.lookIn name od = some (mA name) :=
  let ⟨od, ho, hl⟩ := lookIn_ns I.ns
  ⟨od, ⟨I.obj, rfl, rfl, ho⟩, hl⟩
section
variable {prog : Program} {w : World} {A : Around} {E : Value → Shared → Prop} {s : Shared} {K : PySem.W.Frag} {x dx C f : Addr} {mA : Str → Option Value} {name : Str} {v : Value}
end
section
variable {P : Program} {w : World} {H H' : Hp} {h h' : Heap} {a C dx : Addr} {fs fs' : List (Str × V)}
theorem ins_get (hok : HOk P w H h) (e : H a = some (.ins C dx fs)) : ∃ mA, ObjM h a dx C mA ∧ (∀ f, RelO (fs.lookup f) (mA f)) ∧ PySem.Within mA (fs.map (·.1)) ∧ fs.length ≤ 1000 ∧ H dx = some (.own a) := by
  obtain ⟨d, z, ne, ob, mA, n, r, q⟩ := (show ObjOk P w H h a (.ins C dx fs) from hok a _ e)
  exact ⟨mA, ⟨ob, n, ne⟩, r, q, z, d⟩
end
structure Cls (K : PySem.W.Frag) (C : Addr) : Prop where
  pg : PySem.W.plainGet K C Str.empty = true
  hd : PySem.W.hasDictIn K C = true
  po : PySem.W.plainOver K C = true
  sa : PySem.W.findIn K (.ref C) "__setattr__" = some (some (.builtin "object.__setattr__"))
theorem Cls.get {K : PySem.W.Frag} {C : Addr} (c : Cls K C) (f : Str) : PySem.W.plainGet K C f = true := c.pg
structure Con (K : PySem.W.Frag) (C : Addr) (f : Str) (v : V) (u : Value) : Prop where
  at_ : PySem.W.findIn K (.ref C) f = some (some u)
  rel : RelV v u
  get : PySem.W.specialIn K u "__get__" = some none
  cp : PySem.W.copiedNames.contains f = false
structure Meth (K : PySem.W.Frag) (C : Addr) (m : Str) (f : Addr) : Prop where
  at_ : PySem.W.findIn K (.ref C) m = some (some (.ref f))
  fn : PySem.W.isFn K (.ref f) = true
  kp : PySem.W.keepIn K (.ref f) = true
section
variable {X : Cx} {pins : List (Addr × Obj)} {σ : St} {H : Hp} {s : Shared} {a C dx : Addr} {fs : List (Str × V)} {f : Str} {v : V} {A : Around} {E : Value → Shared → Prop}
theorem Inv.made (I : Inv X pins σ H s) : Inv X pins σ (upd (upd H s.heap.objs.size (.own (s.heap.objs.size + 1))) (s.heap.objs.size + 1) (.ins C s.heap.objs.size []))
    { s with heap := (s.heap.push PySem.W.emptyDict).push (PySem.W.instObj C s.heap.objs.size) } := by
  have e1 : (s.heap.push PySem.W.emptyDict).get? s.heap.objs.size = some PySem.W.emptyDict := Heap.get?_push_size s.heap rfl
  have e2 : ((s.heap.push PySem.W.emptyDict).push (PySem.W.instObj C s.heap.objs.size)).get? (s.heap.objs.size + 1) = some (PySem.W.instObj C s.heap.objs.size) := by
    have := Heap.get?_push_size (s.heap.push PySem.W.emptyDict) (o := PySem.W.instObj C s.heap.objs.size) rfl
    rwa [Heap.size_push] at this
  have e3 : (s.heap.push PySem.W.emptyDict).Ns s.heap.objs.size (fun _ => none) := ⟨PySem.W.emptyDict, #[], _, e1, rfl, (fun e he => absurd he (by simp)), fun _ => rfl⟩
  have I1 := I.laid (a := s.heap.objs.size) (o := .own (s.heap.objs.size + 1)) (h' := s.heap.push PySem.W.emptyDict) (t' := s.toks) (fun b u q => Heap.get?_push_of_some _ q) (Nat.le_refl _) ⟨_, e1⟩
  refine I1.laid (a := s.heap.objs.size + 1) (o := .ins C s.heap.objs.size []) (t' := s.toks) (fun b u q => Heap.get?_push_of_some _ q) (Nat.le_of_eq (Heap.size_push _ _)) ?_
  have ne : s.heap.objs.size ≠ s.heap.objs.size + 1 := Nat.ne_of_lt (Nat.lt_succ_self _)
  refine ⟨by rw [upd_ne ne, upd_same], Nat.zero_le _, ne, e2, fun _ => none, (Heap.Ns1.of_empty e3).at fun o q => Heap.get?_push_of_some _ q, fun _ => True.intro, fun y hy => absurd rfl hy⟩
end
section
variable {X : Cx} {o e value : Expr} {f : Str} {pos pos' tpos : Pos} {ta tv : TE}
end
section
variable {X : Cx} {pins : List (Addr × Obj)} {σ : St} {H : Hp} {s : Shared} {A : Around} {E : Value → Shared → Prop} {Q : Value → Shared → Prop} {c : Value} {b : Bool}
inductive TyOf (K : PySem.W.Frag) (H : Hp) : V → Value → Prop where
  | non : TyOf K H .non (.type "NoneType")
  | bl (x : Bool) : TyOf K H (.bl x) (.type "bool")
  | int (i : Int) : TyOf K H (.int i) (.type "int")
  | str (x : Str) : TyOf K H (.str x) (.type "str")
  | flt (x : UInt64) : TyOf K H (.flt x) (.type "float")
  | lst {a : Addr} {xs : List V} (e : H a = some (.lst xs)) : TyOf K H (.ref a) (.type "list")
  | frz {a : Addr} {o : Obj} {xs : List V} (e : H a = some (.frz o (.lst xs))) : TyOf K H (.ref a) (.type "list")
  | tup {a : Addr} {xs : List V} (e : H a = some (.tup xs)) : TyOf K H (.ref a) (.type "tuple")
  | dK {a : Addr} {kvs : List (Key × V)} (e : H a = some (.dK kvs)) : TyOf K H (.ref a) (.type "dict")
  | dT {a : Addr} {kvs : List (List Key × V)} (e : H a = some (.dT kvs)) : TyOf K H (.ref a) (.type "dict")
  | ins {a C dx : Addr} {fs : List (Str × V)} (e : H a = some (.ins C dx fs)) (cl : Cls K C) (ha : PySem.W.findIn K (.ref C) "__class__" = some (some (.builtin "object.__class__")))
      (hn : PySem.W.specialIn K (.builtin "object.__class__") "__get__" = some (some (.builtin "getset_descriptor.__get__"))) (htk : PySem.W.takesIn K (.builtin "object.__class__") = some true)
      (hm : PySem.W.mroIn K C (.type "object") = some true) : TyOf K H (.ref a) (.ref C)
theorem isinst_ok {x : V} {u t : Value} (I : Inv X pins σ H s) (rx : RelV x u) (ty : TyOf X.K H x t) (e : PySem.W.kitOne X.K t c = some b) (h : ∀ tk, Q (.bool b) { s with toks := tk }) :
    wpAny (model X.prog X.w) A (call (.builtin "isinstance") [u, c]) Q E s := by
  cases ty with
  | non => cases (show u = Value.none from rx); exact PySem.W.kia_one PySem.W.kitx_none I.kIn True.intro e (fun z => nomatch z) h
  | bl y => cases (show u = Value.bool y from rx); exact PySem.W.kia_one PySem.W.kitx_bool I.kIn True.intro e (fun z => nomatch z) h
  | int i => obtain ⟨t, q⟩ := (show ∃ t, u = Value.int i t from rx); cases q; exact PySem.W.kia_one PySem.W.kitx_int I.kIn True.intro e (fun z => nomatch z) h
  | str y => obtain ⟨t, q⟩ := (show ∃ t, u = Value.str y t from rx); cases q; exact PySem.W.kia_one PySem.W.kitx_str I.kIn True.intro e (fun z => nomatch z) h
  | flt y => obtain ⟨t, q⟩ := (show ∃ t, u = Value.float y t from rx); cases q; exact PySem.W.kia_one PySem.W.kitx_float I.kIn True.intro e (fun z => nomatch z) h
  | @lst a xs ea =>
    cases (show u = Value.ref a from rx)
    obtain ⟨_, _, n, _, h1⟩ := (show ObjOk X.prog X.w H s.heap a (.lst xs) from I.hok a _ ea)
    exact PySem.W.kia_one PySem.W.kitx_list I.kIn ⟨_, h1, rfl⟩ e (fun z => nomatch z) h
  | @frz a ob xs ea =>
    cases (show u = Value.ref a from rx)
    obtain ⟨_, _, _, n, _, h1⟩ := (show ObjOk X.prog X.w H s.heap a (.frz ob (.lst xs)) from I.hok a _ ea)
    exact PySem.W.kia_one PySem.W.kitx_list I.kIn ⟨_, h1, rfl⟩ e (fun z => nomatch z) h
  | @tup a xs ea =>
    cases (show u = Value.ref a from rx)
    obtain ⟨_, _, _, p⟩ := (show ObjOk X.prog X.w H s.heap a (.tup xs) from I.hok a _ ea)
    obtain ⟨o, h1, h2, _⟩ := p
    exact PySem.W.kia_one PySem.W.kitx_tuple I.kIn ⟨o, h1, h2⟩ e (fun z => nomatch z) h
  | @dK a kvs ea =>
    cases (show u = Value.ref a from rx)
    obtain ⟨_, _, vs, _, p⟩ := (show ObjOk X.prog X.w H s.heap a (.dK kvs) from I.hok a _ ea)
    obtain ⟨o, es, ep, h1, h2, _⟩ := p
    exact PySem.W.kia_one PySem.W.kitx_dict I.kIn ⟨o, h1, h2.1⟩ e (fun z => nomatch z) h
  | @dT a kvs ea =>
    cases (show u = Value.ref a from rx)
    obtain ⟨_, _, xs, _, o, es, ep, h1, h2, _⟩ := (show ObjOk X.prog X.w H s.heap a (.dT kvs) from I.hok a _ ea)
    exact PySem.W.kia_one PySem.W.kitx_dict I.kIn ⟨o, h1, h2.1⟩ e (fun z => nomatch z) h
  | @ins a C dx fs ea cl ha hn htk hm =>
    cases (show u = Value.ref a from rx)
    obtain ⟨mA, O, _⟩ := ins_get I.hok ea
    obtain ⟨od, J, _⟩ := O.look
    exact PySem.W.kia_one (PySem.W.kitx_own (cl.get _) cl.hd ha hn htk hm) I.kIn J e (fun z => nomatch z) h
end
end L2
namespace L2
open PySem PySem.Spec PyProof.Rows
structure Room (k : Nat) (A : Around) : Prop where
  hd : A.handled = none
  dp : A.depth + 3 * k + 5 < recursionLimit
  un : A.units + 16 * k + 200 < cLine
theorem Room.mono {j k : Nat} {A : Around} (r : Room k A) (h : j ≤ k) : Room j A := ⟨r.hd, by have := r.dp; omega, by have := r.un; omega⟩
theorem Room.deeper {k : Nat} {A : Around} (r : Room (k + 1) A) (env : Env) : Room k (A.deeper env) :=
  ⟨r.hd, by have := r.dp; show A.depth + 1 + 3 * k + 5 < _; omega, by have := r.un; show A.units + 3 + 16 * k + 200 < _; omega⟩
theorem Room.in1 {k : Nat} {A : Around} (r : Room (k + 1) A) : Room k A.in1 :=
  ⟨r.hd, by have := r.dp; show A.depth + 3 * k + 5 < _; omega, by have := r.un; show A.units + 1 + 16 * k + 200 < _; omega⟩
theorem Room.depth {k : Nat} {A : Around} (r : Room k A) : A.depth < recursionLimit := by have := r.dp; omega
theorem Room.units {k : Nat} {A : Around} (r : Room k A) : A.units + 64 < cLine := by have := r.un; omega
theorem Room.units0 {k : Nat} {A : Around} (r : Room k A) : A.units < cLine := by have := r.un; omega
def tNil : TA := fun _ H Q => Q [] H
def tCons (ta : TE) (tr : TA) : TA := fun σ H Q => ta σ H fun x H1 => tr σ H1 fun xs H2 => Q (x :: xs) H2
section
variable {X : Cx} {e : Expr} {es : List Expr} {te : TE} {t : TA} {pos : Pos}
theorem pa_nil : PA X [] tNil := fun _ _ _ _ H Q I h => Calls.spliced_nil ⟨[], H, I, .nil, h⟩
theorem pa_cons (ha : PE X e te) (hr : PA X es t) (hs : starEach (e :: es) X.env = (false, eval e X.env) :: starEach es X.env := by rfl) : PA X (e :: es) (tCons te t) := by
  intro pos pins s σ H Q I h
  rw [hs]
  show wpAny _ _ (spliced ((false, eval e X.env) :: backTo pos (starEach es X.env))) _ _ s
  refine Calls.spliced_cons (thn (ha pins s σ H _ I h) fun u s1 ⟨x, H1, I1, r1, q1⟩ => ?_)
  exact thn (hr pos pins s1 σ H1 _ I1 q1) fun us s2 ⟨xs, H2, I2, r2, q2⟩ => ⟨x :: xs, H2, I2, .cons r1 r2, q2⟩
def tTup (t : TA) : TE := fun σ H Q => t σ H fun xs H1 => xs.length ≤ sizeLine ∧ ∀ p, H1 p = none → Q (.ref p) (upd H1 p (.tup xs))
def tLst (t : TA) : TE := fun σ H Q => t σ H fun xs H1 => xs.length ≤ sizeLine ∧ ∀ p, H1 p = none → Q (.ref p) (upd H1 p (.lst xs))
theorem pe_tup {x1} (h : PA X es t) : PE X (.Tuple es x1 pos) (tTup t) := by
  intro pins s σ H Q I hq
  refine wpAny_Tuple_spliced (thn (h pos pins s σ H _ I hq) fun us s1 ⟨xs, H1, I1, r, z, q⟩ => ⟨by rw [← r.length]; exact z, ?_⟩)
  have hf : H1 s1.heap.objs.size = none := I1.hok.fresh (Nat.le_refl _)
  refine ⟨.ref s1.heap.objs.size, upd H1 s1.heap.objs.size (.tup xs), I1.laid (t' := s1.toks) (fun b u e => Heap.get?_push_of_some _ e) (Nat.le_refl _) ?_, rfl, q _ hf⟩
  exact ⟨z, us, r, ⟨_, Heap.get?_push_size _ rfl, rfl, _, rfl⟩⟩
theorem pe_lst (h : PA X es t) : PE X (.List es pos) (tLst t) := by
  intro pins s σ H Q I hq
  refine wpAny_List_spliced (thn (h pos pins s σ H _ I hq) fun us s1 ⟨xs, H1, I1, r, z, q⟩ => ⟨by rw [← r.length]; exact z, ?_⟩)
  have hf : H1 s1.heap.objs.size = none := I1.hok.fresh (Nat.le_refl _)
  refine ⟨.ref s1.heap.objs.size, upd H1 s1.heap.objs.size (.lst xs), I1.laid (t' := s1.toks) (fun b u e => Heap.get?_push_of_some _ e) (Nat.le_refl _) ?_, rfl, q _ hf⟩
  exact ⟨z, us, 0, r, Heap.get?_push_size _ rfl⟩
end
abbrev Sp := List V → Hp → VK → XK → Prop
abbrev CXT := List Env → Hp → Shared → XK → Value → Shared → Prop
structure Env0 (P : Program) (w : World) (K : PySem.W.Frag) (mg : Str → Option Value) (base : Heap) (A : Around) (outer : List Env) (s : Shared) (H : Hp) : Prop where
  frames : A.frames = some outer
  mod : Mod K mg base
  bs : ∀ b o, base.get? b = some o → s.heap.get? b = some o ∧ H b = none
  bsz : base.objs.size ≤ s.heap.objs.size
  funs : s.heap.FunFrames base outer
  frf : ∀ b ∈ frs outer, H b = none
  hok : HOk P w H s.heap
  bare : AllBare s.gens
def CE (outer : List Env) (P : Program) (w : World) (H : Hp) (s : Shared) (Q : VK) (u : Value) (s' : Shared) : Prop :=
  ∃ v H', s'.os = s.os ∧ AllBare s'.gens ∧ Un (frs outer) [] H H' s.heap s'.heap ∧ HOk P w H' s'.heap ∧ RelV v u ∧ Q v H'
def CR (CX : CXT) (outer : List Env) (P : Program) (w : World) (H : Hp) (s : Shared) (Q : VK) (E : XK) (r : Result) (s' : Shared) : Prop :=
  match r with
  | .ok (.ret u) => CE outer P w H s Q u s'
  | .ok _ => False
  | .error e => CX outer H s E e s'
structure FnOk (P : Program) (w : World) (K : PySem.W.Frag) (mg : Str → Option Value) (base : Heap) (CX : CXT) (k : Nat) (f : Addr) (fd : FuncData) (ps : List Str) (sp : Sp) : Prop where
  len : ∀ vs H Q E, sp vs H Q E → vs.length = ps.length
  run : ∀ (A : Around) (outer : List Env) (s : Shared) (H : Hp) (args : Args) (us : List Value) (vs : List V) (Q : VK) (E : XK), Room k A → Env0 P w K mg base A outer s H → BindsTo s fd args (ps.zip us) → Vals vs us → sp vs H Q E →
    codeAny (model P w) A (.call (.ref f) args) (CR CX outer P w H s Q E) s
theorem FnOk.mono {P : Program} {w : World} {K : PySem.W.Frag} {mg : Str → Option Value} {base : Heap} {CX : CXT} {j k : Nat} {f : Addr} {fd : FuncData} {ps : List Str} {sp : Sp} (F : FnOk P w K mg base CX j f fd ps sp) (h : j ≤ k) :
    FnOk P w K mg base CX k f fd ps sp := ⟨F.len, fun A outer s H args us vs Q E hr => F.run A outer s H args us vs Q E (hr.mono h)⟩
theorem FnOk.imp {P : Program} {w : World} {K : PySem.W.Frag} {mg : Str → Option Value} {base : Heap} {CX : CXT} {k : Nat} {f : Addr} {fd : FuncData} {ps : List Str} {sp sp' : Sp} (F : FnOk P w K mg base CX k f fd ps sp)
    (h : ∀ vs H Q E, sp' vs H Q E → sp vs H Q E) : FnOk P w K mg base CX k f fd ps sp' :=
  ⟨fun vs H Q E q => F.len vs H Q E (h _ _ _ _ q), fun A outer s H args us vs Q E hr he hb hv hs => F.run A outer s H args us vs Q E hr he hb hv (h _ _ _ _ hs)⟩
theorem Env0.in1 {P : Program} {w : World} {K : PySem.W.Frag} {mg : Str → Option Value} {base : Heap} {A : Around} {outer : List Env} {s : Shared} {H : Hp} (e : Env0 P w K mg base A outer s H) :
    Env0 P w K mg base A.in1 outer s H := ⟨e.frames, e.mod, e.bs, e.bsz, e.funs, e.frf, e.hok, e.bare⟩
section
variable {X : Cx} {pins : List (Addr × Obj)} {σ : St} {H : Hp} {s s' : Shared}
theorem Inv.env0 (I : Inv X pins σ H s) : Env0 X.prog X.w X.K X.mg X.base X.A X.stack s H :=
  ⟨I.ok.frames, I.ok.mod, I.bs, Nat.le_trans I.ok.bsz I.sz, I.stack, I.stkFree, I.hok, I.bare⟩
theorem Inv.after {Q : VK} {u : Value} (I : Inv X pins σ H s) (h : CE X.stack X.prog X.w H s Q u s') : EP X pins σ Q u s' := by
  obtain ⟨v, H', os, bare, un, hok, r, q⟩ := h
  obtain ⟨hh, g, d, t, os'⟩ := s'
  obtain rfl : os' = s.os := os
  exact ⟨v, H', I.call (h' := hh) (g' := g) (d' := d) (t' := t) (ch := []) un hok bare (fun b z => absurd z (by simp)), r, q⟩
end
def tCall (sp : Sp) (dvs : List V) (E : XK) (t : TA) : TE := fun σ H Q => t σ H fun vs H1 => sp (vs ++ dvs) H1 Q E
def Binds (K : PySem.W.Frag) (fd : FuncData) (ps : List Str) (ds : List Value) : Prop :=
  ∀ (s : Shared) (us : List Value), K.In s.heap → (us ++ ds).length = ps.length → BindsTo s fd ⟨us, []⟩ (ps.zip (us ++ ds))
theorem Binds.all {K : PySem.W.Frag} {fd : FuncData} {ps : List Str} (h : ∀ us : List Value, us.length = ps.length → bindArgs fd ⟨us, []⟩ = pure (ps.zip us)) : Binds K fd ps [] := fun s us _ hl => by
  rw [List.append_nil] at hl ⊢
  exact .of_eq (h us hl)
def Passes (CX : CXT) (X : Cx) (E : XK) : Prop := ∀ (pins : List (Addr × Obj)) (σ : St) (H : Hp) (s : Shared) (e : Value) (s' : Shared), Inv X pins σ H s → CX X.stack H s E e s' → X.xe e s'
section
variable {X : Cx} {CX : CXT} {k : Nat} {f C : Addr} {fd : FuncData} {ps : List Str} {sp : Sp} {dvs : List V} {ds : List Value} {E : XK} {x m : Str} {p pos apos : Pos} {e o : Expr} {es : List Expr} {ta : TE} {t : TA}
theorem run_fn {pins : List (Addr × Obj)} {σ : St} {H : Hp} {s : Shared} {Q : VK} {us : List Value} {vs : List V} (F : FnOk X.prog X.w X.K X.mg X.base CX k f fd ps sp) (hr : Room k X.A) (hb : Binds X.K fd ps ds) (hd : Vals dvs ds) (hx : Passes CX X E)
    (I : Inv X pins σ H s) (r : Vals vs us) (h : sp (vs ++ dvs) H Q E) : wpAny (model X.prog X.w) X.A (call (.ref f) us) (EP X pins σ Q) X.xe s := by
  have r2 : Vals (vs ++ dvs) (us ++ ds) := r.append hd
  have hl : (us ++ ds).length = ps.length := by rw [← r2.length]; exact F.len _ _ _ _ h
  refine wpAny_call (codeAny_mono (F.run X.A X.stack s H ⟨us, []⟩ (us ++ ds) (vs ++ dvs) Q E hr I.env0 (hb s us I.kIn hl) r2 h) fun r s' hq => ?_)
  cases r with
  | error e => exact hx pins σ H s e s' I hq
  | ok fl =>
    cases fl with
    | ret u => exact I.after hq
    | next => exact False.elim hq
    | brk => exact False.elim hq
    | cont => exact False.elim hq
theorem pe_call (F : FnOk X.prog X.w X.K X.mg X.base CX k f fd ps sp) (hr : Room k X.A) (hg : Gl X x) (hm : X.mg x = some (.ref f)) (hk : PySem.W.keepIn X.K (.ref f) = true) (hb : Binds X.K fd ps ds) (hd : Vals dvs ds) (hx : Passes CX X E)
    (ha : PA X (e :: es) t) (hdb : (x == ("__debug__" : Str)) = false := by decide) (he : starEach (e :: es) X.env = (false, eval e X.env) :: starEach es X.env := by rfl) (hpl : (backTo pos (starEach es X.env)).any (·.1) = false := by rfl) :
    PE X (.Call (.Name x p) (e :: es) [] pos) (tCall sp dvs E t) := by
  intro pins s σ H Q I h
  refine wpAny_Call_Name_kw (ld_glob I hg hm ?_ hdb)
  refine PySem.W.callWith_K (h₀ := X.base) I.ok.mod.kin hk (thn (ha pos pins s σ H _ I h) fun us s1 ⟨vs, H1, I1, r, q⟩ => ⟨I1.kIn, ?_⟩) he hpl
  exact run_fn F hr hb hd hx I1 r q
structure Mk (K : PySem.W.Frag) (C f : Addr) : Prop where
  makes : PySem.W.makesIn K C = true
  init : PySem.W.findIn K (.ref C) "__init__" = some (some (.ref f))
  fn : PySem.W.isFn K (.ref f) = true
  kp : PySem.W.keepIn K (.ref C) = true
end
section
variable {X : Cx} {CX : CXT} {k : Nat} {f C : Addr} {fd : FuncData} {ps ks : List Str} {sp : Sp} {E : XK} {x m : Str} {p pos apos kpos : Pos} {e o : Expr} {es : List Expr} {kws : List Keyword} {te ta : TE} {t tk : TA} {nm : Option Str}
structure KBinds (K : PySem.W.Frag) (fd : FuncData) (ps ks : List Str) (g : List Value → List Value → List Value) (gV : List V → List V → List V) : Prop where
  to : ∀ (s : Shared) (us ws : List Value), K.In s.heap → (g us ws).length = ps.length → BindsTo s fd ⟨us, ks.zip ws⟩ (ps.zip (g us ws))
  rel : ∀ {vs : List V} {us : List Value} {zs : List V} {ws : List Value}, Vals vs us → Vals zs ws → Vals (gV vs zs) (g us ws)
variable {g : List Value → List Value → List Value} {gV : List V → List V → List V}
end
structure FnScope (N P : List Str) (sc : Scope) : Prop where
  kind : sc.kind = .function
  co : sc.isCoroutine = false
  gen : sc.isGenerator = false
  nd : N.Nodup
  pre : N.take P.length = P
  par : ∀ x ∈ P, sc.names.lookup x = some .local ∨ sc.names.lookup x = some .cell
  nofree : ∀ y ∈ sc.names, y.2 ≠ .free
theorem bindL_out {kindOf : Str → Option NameKind} {x : Str} : ∀ {binds : List (Str × Value)} {m : Str → Option Value}, (∀ v, (x, v) ∉ binds) → bindL kindOf binds m x = m x
  | [], _, _ => rfl
  | (n, v) :: r, m, h => by
    unfold bindL
    rw [bindL_out fun w hw => h w (List.mem_cons_of_mem _ hw)]
    split
    · have : x ≠ n := by rintro rfl; exact h v List.mem_cons_self
      simp [this]
    · rfl
theorem bindC_out {kindOf : Str → Option NameKind} {x : Str} : ∀ {binds : List (Str × Value)} {m : Str → Option Value}, (∀ v, (x, v) ∉ binds) → bindC kindOf binds m x = m x
  | [], _, _ => rfl
  | (n, v) :: r, m, h => by
    unfold bindC
    rw [bindC_out fun w hw => h w (List.mem_cons_of_mem _ hw)]
    split
    · rfl
    · have : x ≠ n := by rintro rfl; exact h v List.mem_cons_self
      simp [this]
theorem bindL_get {kindOf : Str → Option NameKind} {x : Str} {v : Value} : ∀ {P : List Str} {vs : List Value} {i : Nat} {m : Str → Option Value}, P.Nodup → P[i]? = some x → vs[i]? = some v → kindOf x = some .local →
    bindL kindOf (P.zip vs) m x = some v
  | [], _, _, _, _, h, _, _ => by simp at h
  | _ :: _, [], _, _, _, _, h, _ => by simp at h
  | p :: P, w :: vs, 0, m, nd, h1, h2, hk => by
    simp at h1 h2; subst h1; subst h2
    show bindL kindOf ((p, w) :: P.zip vs) m p = _
    unfold bindL
    rw [bindL_out fun v hv => (List.nodup_cons.mp nd).1 (List.of_mem_zip hv).1, if_pos hk]
    simp
  | p :: P, w :: vs, i + 1, m, nd, h1, h2, hk => by
    show bindL kindOf ((p, w) :: P.zip vs) m x = _
    unfold bindL
    exact bindL_get (i := i) (List.nodup_cons.mp nd).2 (by simpa using h1) (by simpa using h2) hk
theorem bindC_get {kindOf : Str → Option NameKind} {x : Str} {v : Value} : ∀ {P : List Str} {vs : List Value} {i : Nat} {m : Str → Option Value}, P.Nodup → P[i]? = some x → vs[i]? = some v → kindOf x ≠ some .local →
    bindC kindOf (P.zip vs) m x = some v
  | [], _, _, _, _, h, _, _ => by simp at h
  | _ :: _, [], _, _, _, _, h, _ => by simp at h
  | p :: P, w :: vs, 0, m, nd, h1, h2, hk => by
    simp at h1 h2; subst h1; subst h2
    show bindC kindOf ((p, w) :: P.zip vs) m p = _
    unfold bindC
    rw [bindC_out fun v hv => (List.nodup_cons.mp nd).1 (List.of_mem_zip hv).1, if_neg hk]
    simp
  | p :: P, w :: vs, i + 1, m, nd, h1, h2, hk => by
    show bindC kindOf ((p, w) :: P.zip vs) m x = _
    unfold bindC
    exact bindC_get (i := i) (List.nodup_cons.mp nd).2 (by simpa using h1) (by simpa using h2) hk
def start (N : List Str) (vs : List V) : St := vs.map some ++ List.replicate (N.length - vs.length) none
def cxOf (CX : CXT) (P : Program) (w : World) (K : PySem.W.Frag) (mg : Str → Option Value) (base : Heap) (N : List Str) (qual : Str) (scope : Scope) (f : Addr) (cd : Value) (A : Around) (outer : List Env) (s : Shared) (H : Hp) (E : XK) : Cx where
  prog := P
  w := w
  K := K
  mg := mg
  base := base
  A := A.deeper (envOfC qual scope s.heap.objs.size f cd)
  N := N
  s₀ := s
  H₀ := H
  env := envOfC qual scope s.heap.objs.size f cd
  outer := outer
  stack := envOfC qual scope s.heap.objs.size f cd :: outer
  ex := []
  calm := true
  fn := fun _ => true
  pn := []
  xe := fun e s' => wpAny (model P w) (A.deeper (envOfC qual scope s.heap.objs.size f cd)) (leaving (envOfC qual scope s.heap.objs.size f cd) e) (fun _ s'' => CX outer H s E e s'') (fun e' s'' => CX outer H s E e' s'') s'
theorem cell_has {sc : Scope} {n : Nat} {x : Str} (h : sc.names.lookup x = some .cell) : ∃ c, (cellsFrom n sc.names []).lookup x = some c := by
  have q := PySem.W.cellsFrom_some sc.names n [] (.inl h)
  exact Option.isSome_iff_exists.mp q
theorem inv_start {CX : CXT} {P : Program} {w : World} {K : PySem.W.Frag} {mg : Str → Option Value} {base : Heap} {N ps : List Str} {qual : Str} {scope : Scope} {f : Addr} {cd : Value} {A : Around} {outer : List Env} {s s1 : Shared} {H : Hp} {E : XK} {us : List Value} {vs : List V}
    (S : FnScope N ps scope) (hd : A.handled = none) (e0 : Env0 P w K mg base A outer s H) (hl : vs.length = ps.length) (r : Vals vs us)
    (x : InCallC s s.heap.objs.size (bindL (envOfC qual scope s.heap.objs.size f cd).kindOf (ps.zip us) fun _ => none) (cellsFrom (s.heap.objs.size + 1) scope.names []) (bindC (envOfC qual scope s.heap.objs.size f cd).kindOf (ps.zip us) fun _ => none) s1) :
    Inv (cxOf CX P w K mg base N qual scope f cd A outer s H E) [] (start N vs) H s1 := by
  have hpl : ps.length ≤ N.length := by have := congrArg List.length S.pre; rw [List.length_take] at this; omega
  obtain ⟨h1, tk, rfl, hk⟩ := x.done
  have noA : ∀ b : Addr, b ∉ (cxOf CX P w K mg base N qual scope f cd A outer s H E).ex := fun b z => absurd (show b ∈ ([] : List Addr) from z) (by simp)
  refine ⟨⟨e0.mod, S.kind, rfl, rfl, Nat.le_refl _, fun y z c h1 h2 => ?_, fun y hy => ?_, fun y c _ h => ?_, fun _ => hd, Around.frames_deeper e0.frames, .inr ⟨rfl, rfl⟩, fun b z => absurd z (noA b), e0.bs, e0.bsz, fun b _ _ => noA b, fun b z => absurd z (noA b), e0.funs, e0.frf⟩,
    rfl, e0.bare, Un.kept hk, ⟨_, x.toInCall.ns, fun i y v h1 h2 h3 => ?_⟩, fun y c h => ⟨_, x.cell y c h⟩, e0.hok.fresh (Nat.le_refl _), fun y c h => ?_, fun p hp => absurd (show p ∈ ([] : List (Addr × Obj)) from hp) (by simp), e0.hok.kept hk, ?_⟩
  · exact name_of_addr x.apart (PySem.mem_of_lookup h1) (PySem.mem_of_lookup h2)
  · have hy : scope.names.lookup y = some .cell ∨ scope.names.lookup y = some .free := hy
    rcases hy with hy | hy
    · exact cell_has hy
    · exact absurd rfl (S.nofree _ (PySem.mem_of_lookup hy))
  · exact Nat.le_of_lt (x.above y c (PySem.mem_of_lookup h))
  · have hi : i < vs.length := by
      unfold start at h2
      by_cases hi : i < vs.length
      · exact hi
      · rw [List.getElem?_append_right (by simpa using hi)] at h2
        rw [List.getElem?_replicate] at h2
        split at h2 <;> cases h2
    have ha : vs[i]? = some v := by
      unfold start at h2
      rw [List.getElem?_append_left (by simpa using hi), List.getElem?_map] at h2
      cases e : vs[i]? with
      | none => rw [e] at h2; cases h2
      | some a => rw [e] at h2; cases h2; rfl
    obtain ⟨u, hu, rv⟩ := r.get ha
    have hp : ps[i]? = some y := by
      rw [← S.pre, List.getElem?_take_of_lt (by omega)]; exact h1
    have ndP : ps.Nodup := by rw [← S.pre]; exact S.nd.sublist (List.take_sublist _ _)
    refine ⟨u, rv, ?_⟩
    rcases S.par y (List.mem_of_getElem? hp) with k | k
    · exact .inl ⟨k, bindL_get ndP hp hu k⟩
    · obtain ⟨c, e⟩ := cell_has (n := s.heap.objs.size + 1) k
      refine .inr ⟨.inl k, c, e, ?_⟩
      have q := x.cell y c e
      rw [bindC_get ndP hp hu (by show scope.names.lookup y ≠ _; rw [k]; decide)] at q
      exact q
  · exact e0.hok.fresh (Nat.le_of_lt (x.above y c (PySem.mem_of_lookup h)))
  · unfold start
    show _ = N.length
    rw [List.length_append, List.length_map, List.length_replicate]
    omega
theorem fn_of {CX : CXT} {P : Program} {w : World} {K : PySem.W.Frag} {mg : Str → Option Value} {base : Heap} {k : Nat} {f : Addr} {name qual : Str} {params : Arguments} {body : List Stmt} {scope : Scope} {dV kV doc pm cdv ct oc : Value} {an od : Option Addr}
    {osl : Array (Option Value)} {N ps : List Str} {sp : Sp} (lk : K.lookup f = some ⟨oc, od, .func (PySem.W.fnOf name qual params body scope dV kV doc pm an cdv ct), osl⟩) (hcd : PySem.W.codeIn K cdv qual = true) (S : FnScope N ps scope)
    (len : ∀ vs H Q E, sp vs H Q E → vs.length = ps.length)
    (hbody : ∀ (A : Around) (outer : List Env) (s : Shared) (H : Hp) (vs : List V) (Q : VK) (E : XK), Room k (A.deeper (envOfC qual scope s.heap.objs.size f cdv)) → sp vs H Q E →
      ∃ t, PSs (cxOf CX P w K mg base N qual scope f cdv A outer s H E) body t ∧ t { nx := fun _ H' => Q .non H', rt := Q } (start N vs) H) :
    FnOk P w K mg base CX (k + 1) f (PySem.W.fnOf name qual params body scope dV kV doc pm an cdv ct) ps sp := by
  refine ⟨len, fun A outer s H args us vs Q E hr e0 hb r hsp => ?_⟩
  have hl := len _ _ _ _ hsp
  have KX : K.In s.heap := e0.mod.kin.keeps fun b o e => (e0.bs b o e).1
  have lim : s.heap.NoLimit := e0.mod.nolimit.keeps fun b o e => (e0.bs b o e).1
  have hkind : ∀ y ∈ ps.zip us, scope.names.lookup y.1 = some .local ∨ (scope.names.lookup y.1 = some .cell ∧ ((cellsFrom (s.heap.objs.size + 1) scope.names []).lookup y.1).isSome = true) := fun ⟨n, v⟩ hy => by
    rcases S.par n (List.of_mem_zip hy).1 with q | q
    · exact .inl q
    · exact .inr ⟨q, PySem.W.cellsFrom_some _ _ _ (.inl q)⟩
  refine codeAny_call_function hr.depth (KX _ _ lk) rfl S.co S.gen rfl (PySem.W.codeRec_of KX hcd) (hb _ _ _ _ ?_)
  refine wpAny_newFunctionEnv_cells S.kind hkind fun env he s1 x => ?_
  subst he
  refine ⟨lim.keeps x.toInCall.keep, codeAny_func ?_⟩
  obtain ⟨t, ht, hq⟩ := hbody A outer s H vs Q E (hr.deeper _) hsp
  have I : Inv (cxOf CX P w K mg base N qual scope f cdv A outer s H E) [] (start N vs) H s1 := inv_start S hr.hd e0 hl r x
  refine wpAny_mono (ht [] s1 (start N vs) H _ I hq) (fun fl s' hs => ?_) fun e s' hs => hs
  have fin : ∀ {σ' : St} {H' : Hp} {v : V} {u : Value}, Inv (cxOf CX P w K mg base N qual scope f cdv A outer s H E) [] σ' H' s' → RelV v u → Q v H' → CE outer P w H s Q u s' :=
    fun {σ' H' v u} J rv q => ⟨v, H', J.os, J.bare, J.base, J.hok, rv, q⟩
  cases fl with
  | ret u =>
    obtain ⟨v, σ', H', J, rv, q⟩ := hs
    exact fin J rv q
  | next =>
    obtain ⟨σ', H', J, q⟩ := hs
    exact fin (v := V.non) (u := Value.none) J rfl q
  | brk =>
    obtain ⟨_, _, _, q⟩ := hs
    exact False.elim q
  | cont =>
    obtain ⟨_, _, _, q⟩ := hs
    exact False.elim q
end L2
namespace L2
open PySem PySem.Spec PyProof.Rows
section
variable {X : Cx} {x : Str} {p pos : Pos} {e : Expr} {es : List Expr} {t : TA} {id T : String} {r : List V → Hp → VK → Prop}
def tCB (r : List V → Hp → VK → Prop) (t : TA) : TE := fun σ H Q => t σ H fun vs H1 => r vs H1 Q
theorem pe_callB (hc : CallR X (.builtin id) r) (hg : Gl X x) (hm : X.mg x = none) (hv : bootBuiltins x = some (.builtin id)) (ha : PA X (e :: es) t) (hn : x ≠ "__name__" := by decide) (hdb : (x == ("__debug__" : Str)) = false := by decide)
    (he : starEach (e :: es) X.env = (false, eval e X.env) :: starEach es X.env := by rfl) (hpl : (backTo pos (starEach es X.env)).any (·.1) = false := by rfl) : PE X (.Call (.Name x p) (e :: es) [] pos) (tCB r t) := by
  intro pins s σ H Q I h
  refine wpAny_Call_Name_kw (ld_blt I hg hm hv ?_ hn hdb)
  exact PyProof.Rows.callWith_builtin1 (thn (ha pos pins s σ H _ I h) fun us s1 ⟨vs, H1, I1, r1, q1⟩ => hc pins s1 σ H1 vs us Q I1 r1 q1) he hpl
theorem pe_callTy (hc : CallR X (.type T) r) (hg : Gl X x) (hm : X.mg x = none) (hv : bootBuiltins x = some (.type T)) (ha : PA X (e :: es) t) (hn : x ≠ "__name__" := by decide) (hdb : (x == ("__debug__" : Str)) = false := by decide)
    (he : starEach (e :: es) X.env = (false, eval e X.env) :: starEach es X.env := by rfl) (hpl : (backTo pos (starEach es X.env)).any (·.1) = false := by rfl) : PE X (.Call (.Name x p) (e :: es) [] pos) (tCB r t) := by
  intro pins s σ H Q I h
  refine wpAny_Call_Name_kw (ld_blt I hg hm hv ?_ hn hdb)
  exact PyProof.Rows.callWith_type1 (thn (ha pos pins s σ H _ I h) fun us s1 ⟨vs, H1, I1, r1, q1⟩ => hc pins s1 σ H1 vs us Q I1 r1 q1) he hpl
end
end L2
namespace HT
open PySem PyProof.Rows
section
open PySem.SeqAt
open PySem.AutoSeq1 (wpAny_loadPart')
open PySem.MeetsSeq PySem.MeetsSeq2 PySem.MeetsSeq3
end
section
variable {prog : Program} {w : World} {A : Around} {E : Value → Shared → Prop} {s : Shared}
theorem cat_tup {t b : Addr} {vs ws : List Value} {Q : Value → Shared → Prop} (ht : IsTup s.heap t vs.toArray) (hb : IsTup s.heap b ws.toArray) (hv : vs ≠ [])
    (h1 : ws = [] → Q (.ref t) s) (h2 : ws ≠ [] → Q (.ref s.heap.objs.size) { s with heap := s.heap.push { cls := .type "tuple", data := .seq (vs ++ ws).toArray } })
    (hsz : vs.length + ws.length ≤ sizeLine) : wpAny (model prog w) A (binaryOp .Add (.ref t) (.ref b)) Q E s := by
  obtain ⟨⟨cls, dd, data, sl⟩, ho, hc, n, hd⟩ := id ht
  obtain ⟨⟨cls2, dd2, data2, sl2⟩, ho2, hc2, n2, hd2⟩ := id hb
  simp only at hc hd hc2 hd2
  subst hc hd hc2 hd2
  have e : vs.toArray ++ ws.toArray = (vs ++ ws).toArray := by simp
  by_cases hw : ws = []
  · exact concat_meets ⟨_, ho, rfl⟩ ⟨_, ho2, rfl⟩ noFill_tuple_add seq_tuple_add PySem.F.slot_tuple_add PySem.F.entry_tuple_add (PySem.F.args_tuple_add_2 _ _)
      (tuple_addW1 t b vs.toArray ws.toArray n n2 dd dd2 sl sl2 (by simpa using hv) (by simp [hw])) ⟨ho, ho2, h1 hw⟩
  · refine concat_meets ⟨_, ho, rfl⟩ ⟨_, ho2, rfl⟩ noFill_tuple_add seq_tuple_add PySem.F.slot_tuple_add PySem.F.entry_tuple_add (PySem.F.args_tuple_add_2 _ _)
      (tuple_addW2 t b vs.toArray ws.toArray n n2 dd dd2 sl sl2 (by simpa using hv) (by simpa using hw) (by rw [List.size_toArray, List.size_toArray]; exact hsz)) ⟨ho, ho2, ?_⟩
    rw [e]
    exact h2 hw
def sIx (n d : Nat) : Option Int → Nat
  | none => d
  | some v => if v < 0 then (v + (n : Int)).toNat else min v.toNat n
theorem sIx_le (n d : Nat) (hd : d ≤ n) (o : Option Int) : sIx n d o ≤ n := by
  cases o with
  | none => exact hd
  | some v =>
    show (if v < 0 then (v + (n : Int)).toNat else min v.toNat n) ≤ n
    by_cases hv : v < 0
    · rw [if_pos hv]; omega
    · rw [if_neg hv]; exact Nat.min_le_right _ _
theorem clip_eq (v : Int) (n d : Nat) : (if v < 0 then max (v + (n : Int)) 0 else min v (n : Int)) = ((sIx n d (some v) : Nat) : Int) := by
  show (if v < 0 then max (v + (n : Int)) 0 else min v (n : Int)) = (((if v < 0 then (v + (n : Int)).toNat else min v.toNat n) : Nat) : Int)
  by_cases hv : v < 0
  · simp only [if_pos hv]; omega
  · simp only [if_neg hv]; omega
theorem adjust_gen (lo hi : Option Int) (n : Nat) : Builtin.Slice.sliceAdjust lo hi 1 (n : Int) = (((sIx n 0 lo : Nat) : Int), ((sIx n n hi : Nat) : Int)) := by
  have h1 : ¬ ((1 : Int) < 0) := by omega
  unfold Builtin.Slice.sliceAdjust
  simp only [h1, if_false]
  refine Prod.ext ?_ ?_
  · cases lo with
    | none => rfl
    | some v => exact clip_eq v n 0
  · cases hi with
    | none => rfl
    | some v => exact clip_eq v n n
theorem places_gen (i j : Nat) : Builtin.Slice.slicePlaces (i : Int) (j : Int) 1 = j - i := by
  unfold Builtin.Slice.slicePlaces
  have h1 : (1 : Int) > 0 := by omega
  simp only [h1, if_true, Int.ediv_one]
  split <;> omega
theorem slicePart_ {v : Value} {o : Option Int} {Q : Option Int → Shared → Prop} (p : IsPart v o) (h : Q o s) : wpAny (model prog w) A (Builtin.Slice.slicePartIndex v) Q E s := by
  cases p with
  | none => exact slicePart_none h
  | int i t => exact slicePart_int h
theorem sliceApplied_gen {sl : Addr} {vl vu : Value} {lo hi : Option Int} {n : Nat} {Q : Int × Int × Nat → Shared → Prop} (hs : s.heap.IsSliceOf sl vl vu .none) (pl : IsPart vl lo) (pu : IsPart vu hi)
    (h : Q (((sIx n 0 lo : Nat) : Int), 1, sIx n n hi - sIx n 0 lo) s) : wpAny (model prog w) A (Builtin.Slice.sliceApplied (.ref sl) (pure (n : Int))) Q E s := by
  obtain ⟨os, hos, hcs, hds⟩ := id hs
  unfold Builtin.Slice.sliceApplied Builtin.Slice.sliceFields
  refine wpAny_bind (wpAny_bind (wpAny_field hos hds (x := vl) rfl (wpAny_bind (wpAny_field hos hds (x := vu) rfl (wpAny_bind (wpAny_field hos hds (x := .none) rfl (wpAny_pure ?_)))))))
  refine wpAny_bind (slicePart_none ?_)
  show wpAny _ _ (if ((1 : Int) == 0) = true then _ else _) _ _ s
  rw [if_neg (by decide)]
  refine wpAny_bind (slicePart_ pl (wpAny_bind (slicePart_ pu (wpAny_bind (wpAny_pure ?_)))))
  show wpAny _ _ (match Builtin.Slice.sliceAdjust lo hi 1 (n : Int) with | (lo, hi) => pure (lo, (1 : Int), Builtin.Slice.slicePlaces lo hi 1)) _ _ s
  rw [adjust_gen lo hi n]
  show wpAny _ _ (pure (((sIx n 0 lo : Nat) : Int), (1 : Int), Builtin.Slice.slicePlaces ((sIx n 0 lo : Nat) : Int) ((sIx n n hi : Nat) : Int) 1)) _ _ s
  rw [places_gen]
  exact wpAny_pure h
theorem pick_gen (xs : Array Value) (i k : Nat) : ((List.range k).filterMap fun (m : Nat) => xs[((i : Int) + (m : Int) * 1).toNat]?).toArray = ((xs.toList.drop i).take k).toArray := by
  have e : (fun (m : Nat) => xs[((i : Int) + (m : Int) * 1).toNat]?) = fun m => xs[i + m]? := by
    funext m
    have : ((i : Int) + (m : Int) * 1).toNat = i + m := by omega
    rw [this]
  rw [e]
  have := pick_run xs i k
  rw [List.filterMap_map] at this
  have e2 : ((fun x => xs[x]?) ∘ fun x => i + x) = fun m => xs[i + m]? := rfl
  rw [e2] at this
  rw [this]
theorem getItem_tuple_cut {t sl : Addr} {items : Array Value} {vl vu : Value} {lo hi : Option Int} {Q : Value → Shared → Prop} (ht : IsTup s.heap t items) (hs : s.heap.IsSliceOf sl vl vu .none) (pl : IsPart vl lo) (pu : IsPart vu hi)
    (hw : ¬ (sIx items.size 0 lo = 0 ∧ sIx items.size items.size hi = items.size))
    (h : Q (.ref s.heap.objs.size) { s with heap := s.heap.push { cls := .type "tuple", data := .seq ((items.toList.drop (sIx items.size 0 lo)).take (sIx items.size items.size hi - sIx items.size 0 lo)).toArray } })
    (hsz : items.size ≤ sizeLine) : wpAny (model prog w) A (getItem (.ref t) (.ref sl)) Q E s := by
  have htake : sizeOk (.seq ((items.toList.drop (sIx items.size 0 lo)).take (sIx items.size items.size hi - sIx items.size 0 lo)).toArray) := by
    show ((items.toList.drop (sIx items.size 0 lo)).take (sIx items.size items.size hi - sIx items.size 0 lo)).toArray.size ≤ sizeLine
    rw [List.size_toArray, List.length_take, List.length_drop, Array.length_toList]
    omega
  have hj : sIx items.size items.size hi ≤ items.size := sIx_le _ _ (Nat.le_refl _) hi
  obtain ⟨os, hos, hcs, hds⟩ := id hs
  have hTs : s.TypeIs (.ref sl) "slice" := ⟨os, hos, hcs⟩
  unfold getItem
  try with_reducible refine wpAny_holding ?_
  first | refine wpAny_bind (wpAny_pure ?_) | skip
  refine wpAny_bind (wpAny_sequenceKey ht.typeIs (by decide) ?_)
  refine wpAny_bind (wpAny_callSpecial?_slot (name := Str.ofString "__getitem__") ht.typeIs PyProof.Rows.slot_tuple_getitem
    (wpAny_call_entry PyProof.Rows.slot_tuple_getitem ht.typeIs entry_tuple_getitem ?_ (args_tuple_getitem _ _)))
  show wpAny _ _ (Builtin.Tuple.tupleItemsOf (.ref t) >>= _) _ _ s
  refine wpAny_bind (tupleItemsOf_ ht ?_)
  refine wpAny_bind (wpAny_typeOf hTs ?_)
  rw [if_pos (by decide)]
  refine wpAny_bind (sliceApplied_gen hs pl pu ?_)
  have hno : ¬ ((((sIx items.size 0 lo : Nat) : Int) == 0 && (1 : Int) == 1 && (sIx items.size items.size hi - sIx items.size 0 lo) == items.size) = true) := by
    intro q
    rw [Bool.and_eq_true, Bool.and_eq_true] at q
    have q1 : ((sIx items.size 0 lo : Nat) : Int) = 0 := eq_of_beq q.1.1
    have q2 : sIx items.size items.size hi - sIx items.size 0 lo = items.size := eq_of_beq q.2
    exact hw ⟨by omega, by omega⟩
  show wpAny _ _ (if (((sIx items.size 0 lo : Nat) : Int) == 0 && (1 : Int) == 1 && (sIx items.size items.size hi - sIx items.size 0 lo) == items.size) = true then _ else _) _ _ s
  rw [if_neg hno, pick_gen]
  first
    | exact wpAny_bind (m := Builtin.Tuple.tupleExact _) (wpAny_newObj_type (wpAny_pure ⟨_, rfl, wpAny_pure h⟩) htake)
    | exact wpAny_bind (m := Builtin.Tuple.tupleExact _) (wpAny_newObj_type (wpAny_bind (wpAny_pure (wpAny_pure ⟨_, rfl, wpAny_pure h⟩))) htake)
    | exact wpAny_bind (wpAny_bind (m := Builtin.Tuple.tupleExact _) (wpAny_newObj_type (wpAny_pure (wpAny_pure ⟨_, rfl, wpAny_pure h⟩)) htake))
    | exact wpAny_bind (wpAny_bind (m := Builtin.Tuple.tupleExact _) (wpAny_newObj_type (wpAny_pure ⟨_, rfl, wpAny_pure h⟩) htake))
end
end HT
namespace L2
open PySem PySem.Spec PyProof.Rows
abbrev TO := St → Hp → (Option Int → Hp → Prop) → Prop
def PO (X : Cx) (e : Option Expr) (t : TO) : Prop :=
  ∀ (pins : List (Addr × Obj)) (s : Shared) (σ : St) (H : Hp) (Q : Option Int → Hp → Prop), Inv X pins σ H s → t σ H Q →
    wpAny (model X.prog X.w) X.A (evalPart e X.env) (fun u s' => ∃ o H', Inv X pins σ H' s' ∧ IsPart u o ∧ Q o H') X.xe s
def tNoPart : TO := fun _ H Q => Q none H
def tPart (t : TE) : TO := fun σ H Q => t σ H fun x H1 => ∃ i, x = .int i ∧ Q (some i) H1
theorem intsAre_of {ns : List Int} : ∀ {us : List Value}, Vals (ns.map V.int) us → IntsAre us ns := by
  induction ns with
  | nil => intro us r; rw [List.map_nil] at r; cases r; exact .nil
  | cons n ns ih =>
    intro us r
    rw [List.map_cons] at r
    cases r with
    | cons r1 r2 =>
      obtain ⟨t, e⟩ := r1
      subst e
      exact .cons n t (ih r2)
section
variable {X : Cx} {e : Expr} {te : TE} {lo hi : Option Expr} {tl th : TO} {pos p2 : Pos}
theorem po_none : PO X none tNoPart := by
  intro pins s σ H Q I h
  rw [evalPart_none]
  exact wpAny_pure ⟨none, H, I, .none, h⟩
theorem po_some (h : PE X e te) : PO X (some e) (tPart te) := by
  intro pins s σ H Q I hw
  rw [evalPart_some]
  refine thn (h pins s σ H _ I hw) fun u s1 ⟨x, H1, I1, r1, q1⟩ => ?_
  obtain ⟨i, rfl, q⟩ := q1
  obtain ⟨t, rfl⟩ := r1
  exact ⟨some i, H1, I1, .int i t, q⟩
def SlR (X : Cx) (r : V → Option Int → Option Int → Hp → VK → Prop) : Prop :=
  ∀ (pins : List (Addr × Obj)) (s : Shared) (σ : St) (H : Hp) (x : V) (v vl vu : Value) (lo hi : Option Int) (sl : Addr) (Q : VK), Inv X pins σ H s → RelV x v → s.heap.IsSliceOf sl vl vu .none → IsPart vl lo → IsPart vu hi → r x lo hi H Q →
    ∃ T id, typeLookup (.type T) "__getitem__" = pure (some (.builtin id)) ∧ s.TypeIs v T ∧ wpAny (model X.prog X.w) X.A (getItem v (.ref sl)) (EP X pins σ Q) X.xe s
def tSl (r : V → Option Int → Option Int → Hp → VK → Prop) (te : TE) (tl th : TO) : TE := fun σ H Q => te σ H fun x H1 => tl σ H1 fun l H2 => th σ H2 fun u H3 => r x l u H3 Q
theorem pe_slice {r : V → Option Int → Option Int → Hp → VK → Prop} (hr : SlR X r) (he : PE X e te) (hl : PO X lo tl) (hu : PO X hi th) : PE X (.Subscript e (.Slice lo hi none p2) pos) (tSl r te tl th) := by
  intro pins s σ H Q I h
  refine Subscript_ (thn (he pins s σ H _ I h) fun v s1 ⟨x, H1, I1, r1, q1⟩ => ?_)
  refine wpAny_Slice (thn (hl pins s1 σ H1 _ I1 q1) fun vl s2 ⟨l, H2, I2, pl, q2⟩ => thn (hu pins s2 σ H2 _ I2 q2) fun vu s3 ⟨u, H3, I3, pu, q3⟩ => ?_)
  rw [evalPart_none]
  refine wpAny_pure ?_
  have I4 : Inv X pins σ H3 { s3 with heap := s3.heap.push { cls := .type "slice", data := .fields #[vl, vu, .none] } } := I3.kept (t' := s3.toks) fun b ob q => Heap.get?_push_of_some _ q
  obtain ⟨T, id, hT, ht, hg⟩ := hr pins { s3 with heap := s3.heap.push { cls := .type "slice", data := .fields #[vl, vu, .none] } } σ H3 x v vl vu l u s3.heap.objs.size Q I4 r1 (Heap.IsSliceOf.new ..) pl pu q3
  show wpAny (model X.prog X.w) X.A (subscriptTail e (.Slice lo hi none p2) v (.ref s3.heap.objs.size)) (EP X pins σ Q) X.xe { s3 with heap := s3.heap.push { cls := .type "slice", data := .fields #[vl, vu, .none] } }
  exact tail_any (ops := [.ref s3.heap.objs.size, v]) ht hT hg (by with_unfolding_all rfl)
def cutV (xs : List V) (lo hi : Option Int) : List V := (xs.drop (HT.sIx xs.length 0 lo)).take (HT.sIx xs.length xs.length hi - HT.sIx xs.length 0 lo)
theorem cutV_length (xs : List V) (lo hi : Option Int) : (cutV xs lo hi).length ≤ xs.length := by
  unfold cutV
  rw [List.length_take, List.length_drop]
  omega
def rSlT (K : PySem.W.Frag) : V → Option Int → Option Int → Hp → VK → Prop := fun x lo hi H Q => ∃ a xs, x = .ref a ∧ SqT K H a xs ∧
  ¬ (HT.sIx xs.length 0 lo = 0 ∧ HT.sIx xs.length xs.length hi = xs.length) ∧ ∀ p, H p = none → Q (.ref p) (upd H p (.tup (cutV xs lo hi)))
theorem sl_tup : SlR X (rSlT X.K) := by
  intro pins s σ H x v vl vu lo hi sl Q I rx hs pl pu h
  obtain ⟨a, xs, rfl, hx, hw, q⟩ := h
  cases rx
  obtain ⟨its, r, ht, hz⟩ := I.tuple hx
  have hlen : its.toArray.size = xs.length := by rw [List.size_toArray]; exact r.length.symm
  refine ⟨"tuple", _, PyProof.Rows.slot_tuple_getitem.lookup, ht.typeIs, ?_⟩
  refine HT.getItem_tuple_cut ht hs pl pu (by rw [hlen]; exact hw) ?_ (by rw [hlen]; exact hz)
  rw [hlen]
  refine ⟨.ref s.heap.objs.size, _, I.laid (t' := s.toks) (o := .tup (cutV xs lo hi)) (fun b ob q => Heap.get?_push_of_some _ q) (Nat.le_refl _) ?_, rfl, q _ (I.hok.fresh (Nat.le_refl _))⟩
  exact ⟨Nat.le_trans (cutV_length xs lo hi) hz, _, (r.drop (HT.sIx xs.length 0 lo)).take (HT.sIx xs.length xs.length hi - HT.sIx xs.length 0 lo), IsTup.new _ _⟩
def rCatT (K : PySem.W.Frag) : R2 := fun x y H Q => ∃ a b xs ys, x = .ref a ∧ y = .ref b ∧ SqT K H a xs ∧ SqT K H b ys ∧ xs ≠ [] ∧ xs.length + ys.length ≤ sizeLine ∧
  (ys = [] → Q (.ref a) H) ∧ (ys ≠ [] → ∀ p, H p = none → Q (.ref p) (upd H p (.tup (xs ++ ys))))
theorem Vals.nil_iff {xs : List V} {us : List Value} (r : Vals xs us) : us = [] ↔ xs = [] := by
  cases r with
  | nil => simp
  | cons _ _ => simp
theorem op_catT : OpR X (binaryOp .Add) (rCatT X.K) := by
  intro pins s σ H x y v u Q I rx ry h
  obtain ⟨a, b, xs, ys, rfl, rfl, ha, hb, hx, hz, q1, q2⟩ := h
  cases rx
  cases ry
  obtain ⟨its, r1, p1, _⟩ := I.tuple ha
  obtain ⟨its2, r2, p2, _⟩ := I.tuple hb
  refine HT.cat_tup p1 p2 (fun z => hx (r1.nil_iff.mp z)) (fun z => ⟨.ref a, H, I, rfl, q1 (r2.nil_iff.mp z)⟩) (fun z => ?_) (by rw [← r1.length, ← r2.length]; exact hz)
  refine ⟨.ref s.heap.objs.size, _, I.laid (t' := s.toks) (o := .tup (xs ++ ys)) (fun b ob q => Heap.get?_push_of_some _ q) (Nat.le_refl _) ?_, rfl, q2 (fun w => z (r2.nil_iff.mpr w)) _ (I.hok.fresh (Nat.le_refl _))⟩
  exact ⟨by rw [List.length_append]; exact hz, _, r1.append r2, IsTup.new _ _⟩
end
end L2
namespace L2
open PySem PySem.Spec PyProof.Rows
def ixN (n : Nat) (i : Int) : Option Nat := if 0 ≤ i then (if i < n then some i.toNat else none) else if -(n : Int) ≤ i then some (i + n).toNat else none
def atI {α : Type} (xs : List α) (i : Int) : Option α := (ixN xs.length i).bind fun j => xs[j]?
theorem ixN_seq {n : Nat} {i : Int} {j : Nat} (h : ixN n i = some j) : seqIndex? i n = some j ∧ j < n ∧ -(n : Int) ≤ i ∧ i < n := by
  unfold ixN at h
  by_cases h0 : 0 ≤ i
  · rw [if_pos h0] at h
    by_cases h1 : i < n
    · rw [if_pos h1] at h
      have e : i.toNat = j := Option.some.inj h
      exact ⟨by rw [seqIndex_of h0 h1, e], by omega, by omega, h1⟩
    · rw [if_neg h1] at h; cases h
  · rw [if_neg h0] at h
    by_cases h1 : -(n : Int) ≤ i
    · rw [if_pos h1] at h
      have e : (i + n).toNat = j := Option.some.inj h
      exact ⟨by rw [seqIndex_neg (by omega) h1, e], by omega, h1, by omega⟩
    · rw [if_neg h1] at h; cases h
theorem atI_get {α : Type} {xs : List α} {i : Int} {v : α} (h : atI xs i = some v) : ∃ j, seqIndex? i xs.length = some j ∧ xs[j]? = some v ∧ j < xs.length ∧ -(xs.length : Int) ≤ i ∧ i < xs.length := by
  unfold atI at h
  cases e : ixN xs.length i with
  | none => rw [e] at h; cases h
  | some j =>
    rw [e] at h
    obtain ⟨h1, h2, h3, h4⟩ := ixN_seq e
    exact ⟨j, h1, h, h2, h3, h4⟩
theorem atI_nat {α : Type} {xs : List α} {j : Nat} {v : α} (h : xs[j]? = some v) : atI xs (j : Int) = some v := by
  have hj : j < xs.length := (List.getElem?_eq_some_iff.mp h).1
  have e : ixN xs.length (j : Int) = some j := by
    unfold ixN
    rw [if_pos (by omega), if_pos (by omega)]; simp
  unfold atI; rw [e]; exact h
def PlainIx (b : Expr) : Prop := ∀ o i, subscripted b false o i = operate [o, i] (getItem o i)
def IxR (X : Cx) (r : R2) : Prop :=
  ∀ (value slice : Expr) (pins : List (Addr × Obj)) (s : Shared) (σ : St) (H : Hp) (x y : V) (v u : Value) (Q : VK), Inv X pins σ H s → RelV x v → RelV y u → r x y H Q →
    subscripted slice false v u = operate [v, u] (getItem v u) → wpAny (model X.prog X.w) X.A (subscriptTail value slice v u) (EP X pins σ Q) X.xe s
def MtR (X : Cx) (id : String) (r : V → List V → Hp → VK → Prop) : Prop :=
  ∀ (pins : List (Addr × Obj)) (s : Shared) (σ : St) (H : Hp) (x : V) (xs : List V) (v : Value) (us : List Value) (Q : VK), Inv X pins σ H s → RelV x v → Vals xs us → r x xs H Q →
    wpAny (model X.prog X.w) X.A (call (.builtin id) (v :: us)) (EP X pins σ Q) X.xe s
section
variable {X : Cx} {a b : Expr} {ta tb : TE} {pos : Pos}
theorem pe_ix {r : R2} (hr : IxR X r) (ha : PE X a ta) (hb : PE X b tb) (hs : PlainIx b) : PE X (.Subscript a b pos) (tOp r ta tb) := by
  intro pins s σ H Q I h
  exact Subscript_ (binT ha hb I h fun v u s2 x y H2 I2 rx ry q => hr a b pins s2 σ H2 x y v u Q I2 rx ry q (hs _ _))
def rIxL (K : PySem.W.Frag) : R2 := fun x y H Q => ∃ p xs i v, x = .ref p ∧ y = .int i ∧ SqL K H p xs ∧ atI xs i = some v ∧ Q v H
def rIxT (K : PySem.W.Frag) : R2 := fun x y H Q => ∃ p xs i v, x = .ref p ∧ y = .int i ∧ SqT K H p xs ∧ atI xs i = some v ∧ Q v H
theorem ix_list : IxR X (rIxL X.K) := by
  intro value slice pins s σ H x y v u Q I rx ry h hs
  obtain ⟨p, xs, i, z, rfl, rfl, hq, he, q⟩ := h
  cases rx
  obtain ⟨t, rfl⟩ := ry
  obtain ⟨its, r, pl, hz⟩ := I.list hq
  obtain ⟨j, h1, h2, h3, h4, h5⟩ := atI_get he
  obtain ⟨w, ew, rw'⟩ := r.get h2
  have hl := r.length
  have hn := line63
  have fin : EP X pins σ Q w s := ⟨z, H, I, rw', q⟩
  by_cases h0 : 0 ≤ i
  · have hj : i.toNat = j := by
      rw [seqIndex_of h0 h5] at h1
      exact Option.some.inj h1
    exact item_listR pl.isList h0 (by omega) (by rw [hj]; simpa using ew) fin hs
  · have hj : (i + (its.toArray.size : Int)).toNat = j := by
      rw [seqIndex_neg (by omega) h4] at h1
      rw [List.size_toArray, ← hl]
      exact Option.some.inj h1
    exact subscriptTail_builtinR (x := w) pl.isList.typeIs slot_list_getitem.lookup
      (wpAny_getItem_list_neg (Q := fun r s' => r = w ∧ EP X pins σ Q r s') pl.isList (by omega) (by rw [List.size_toArray] <;> omega) (by omega) (by rw [hj]; simpa using ew) ⟨rfl, fin⟩) hs
theorem ix_tup : IxR X (rIxT X.K) := by
  intro value slice pins s σ H x y v u Q I rx ry h hs
  obtain ⟨p, xs, i, z, rfl, rfl, hq, he, q⟩ := h
  cases rx
  obtain ⟨t, rfl⟩ := ry
  obtain ⟨its, r, pl, hz⟩ := I.tuple hq
  obtain ⟨j, h1, h2, h3, h4, h5⟩ := atI_get he
  obtain ⟨w, ew, rw'⟩ := r.get h2
  have hl := r.length
  have hn := line63
  have fin : EP X pins σ Q w s := ⟨z, H, I, rw', q⟩
  exact subscriptTail_builtinR (x := w) pl.typeIs slot_tuple_getitem.lookup
    (getItem_tuple (j := j) (Q := fun r s' => r = w ∧ EP X pins σ Q r s') pl (by omega) (by omega) (by rw [List.size_toArray, ← hl]; exact h1) (by simpa using ew) ⟨rfl, fin⟩) hs
theorem mapSeq_set (its : List Value) (n j : Nat) (u : Value) : Obj.mapSeq (·.setIfInBounds j u) { cls := .type "list", data := .seq its.toArray n } = { cls := .type "list", data := .seq (its.set j u).toArray n } := by
  simp [Obj.mapSeq]
theorem Inv.lst {pins : List (Addr × Obj)} {σ : St} {H : Hp} {s : Shared} {p : Addr} {xs : List V} (I : Inv X pins σ H s) (h : H p = some (.lst xs)) :
    ∃ (its : List Value) (n : Nat), Vals xs its ∧ s.heap.get? p = some { cls := .type "list", data := .seq its.toArray n } ∧ xs.length ≤ sizeLine := by
  obtain ⟨z, its, n, r, e⟩ := I.hok p _ h
  exact ⟨its, n, r, e, z⟩
theorem Inv.lstUpd {pins : List (Addr × Obj)} {σ : St} {H : Hp} {s : Shared} {p : Addr} {xs ys : List V} {its its' : List Value} {n n' : Nat} {f : Obj → Obj} (I : Inv X pins σ H s) (h : H p = some (.lst xs))
    (ho : s.heap.get? p = some { cls := .type "list", data := .seq its.toArray n }) (hf : f { cls := .type "list", data := .seq its.toArray n } = { cls := .type "list", data := .seq its'.toArray n' }) (r : Vals ys its') (hz : ys.length ≤ sizeLine) (t : Nat) :
    Inv X pins σ (upd H p (.lst ys)) { s with heap := s.heap.update p f, toks := t } := by
  have e : (s.heap.update p f).get? p = some { cls := .type "list", data := .seq its'.toArray n' } := by
    rw [Heap.get?_update_self f ho (by rw [hf] <;> rfl), hf]
  refine I.write (x := p) (e := p) (by rw [h]; trivial) (.inl rfl) (fun b u hb q => (Heap.get?_update_other _ _ (Ne.symm hb)).trans q) ⟨_, e⟩ ?_
  exact ⟨hz, its', n', r, e⟩
def rSetL : V → V → V → Hp → (Hp → Prop) → Prop := fun o i v H Q => ∃ p xs k j, o = .ref p ∧ i = .int k ∧ H p = some (.lst xs) ∧ ixN xs.length k = some j ∧ Q (upd H p (.lst (xs.set j v)))
theorem set_list : PSet X rSetL := by
  intro pins s σ H o i v ov iv u Q I ro ri rv h
  obtain ⟨p, xs, k, j, rfl, rfl, hp, hj, q⟩ := h
  cases ro
  obtain ⟨t, rfl⟩ := ri
  obtain ⟨its, n, r, ho, hz⟩ := I.lst hp
  obtain ⟨h1, h2, h3, h4⟩ := ixN_seq hj
  have hl := r.length
  have hn := line63
  have I' : Inv X pins σ (upd H p (.lst (xs.set j v))) { s with heap := s.heap.update p (Obj.mapSeq (·.setIfInBounds j u)) } :=
    I.lstUpd hp ho (mapSeq_set its n j u) (r.set rv j) (by rw [List.length_set]; exact hz) s.toks
  by_cases h0 : 0 ≤ k
  · have hk : k.toNat = j := by
      rw [seqIndex_of h0 h4] at h1
      exact Option.some.inj h1
    exact PySem.W.ki_setAt ho h0 (by omega) (by rw [List.size_toArray, ← hl]; exact h4) (by rw [hk]; exact ⟨_, I', q⟩)
  · have hk : (k + (its.toArray.size : Int)).toNat = j := by
      rw [seqIndex_neg (by omega) h3] at h1
      rw [List.size_toArray, ← hl]
      exact Option.some.inj h1
    exact PySem.W.ki_setBack ho (by omega) (by rw [List.size_toArray, ← hl]; exact h3) (by omega) (by rw [hk]; exact ⟨_, I', q⟩)
theorem slice_bounds (lo hi : Option Int) (n : Nat) : (sliceBounds lo hi none n).1 = ((HT.sIx n 0 lo : Nat) : Int) ∧ (sliceBounds lo hi none n).2.1 = ((HT.sIx n n hi : Nat) : Int) ∧ (sliceBounds lo hi none n).2.2 = 1 := by
  refine ⟨?_, ?_, rfl⟩
  · cases lo with
    | none => simp [sliceBounds, HT.sIx]
    | some i =>
      simp only [sliceBounds, HT.sIx, Option.getD_none, show (1 : Int) > 0 by decide, if_true]
      by_cases h : i < 0
      · simp only [h, if_true] <;> omega
      · simp only [h, if_false] <;> omega
  · cases hi with
    | none => simp [sliceBounds, HT.sIx]
    | some i =>
      simp only [sliceBounds, HT.sIx, Option.getD_none, show (1 : Int) > 0 by decide, if_true]
      by_cases h : i < 0
      · simp only [h, if_true] <;> omega
      · simp only [h, if_false] <;> omega
theorem slicePick_cut (its : List Value) (lo hi : Option Int) : slicePick its.toArray lo hi none = ((its.drop (HT.sIx its.length 0 lo)).take (HT.sIx its.length its.length hi - HT.sIx its.length 0 lo)).toArray := by
  obtain ⟨h1, h2, h3⟩ := slice_bounds lo hi its.toArray.size
  unfold slicePick
  rw [h1, h2, h3]
  simp only [sliceRange_one, pick_run, List.size_toArray] <;> rfl
def rSlL (K : PySem.W.Frag) : V → Option Int → Option Int → Hp → VK → Prop := fun x lo hi H Q => ∃ a xs, x = .ref a ∧ SqL K H a xs ∧ ∀ p, H p = none → Q (.ref p) (upd H p (.lst (cutV xs lo hi)))
theorem sl_list : SlR X (rSlL X.K) := by
  intro pins s σ H x v vl vu lo hi sl Q I rx hs pl pu h
  obtain ⟨a, xs, rfl, hx, q⟩ := h
  cases rx
  obtain ⟨its, r, ht, hz⟩ := I.list hx
  have hlen := r.length
  refine ⟨"list", _, slot_list_getitem.lookup, ht.isList.typeIs, ?_⟩
  refine wpAny_getItem_list_slice ht.isList hs pl pu .none (by simp) ?_ (by rw [List.size_toArray] <;> omega)
  rw [slicePick_cut, ← hlen]
  refine ⟨.ref s.heap.objs.size, _, I.laid (t' := s.toks) (o := .lst (cutV xs lo hi)) (fun b ob q => Heap.get?_push_of_some _ q) (Nat.le_refl _) ?_, rfl, q _ (I.hok.fresh (Nat.le_refl _))⟩
  exact ⟨Nat.le_trans (cutV_length xs lo hi) hz, _, 0, (r.drop (HT.sIx xs.length 0 lo)).take (HT.sIx xs.length xs.length hi - HT.sIx xs.length 0 lo), Heap.get?_push_size _ rfl⟩
def flatV : V → Bool
  | .non => true
  | .bl _ => true
  | .int _ => true
  | .str _ => true
  | _ => false
def eqV : V → V → Bool
  | .non, .non => true
  | .bl a, .bl b => a == b
  | .bl a, .int b => (if a then 1 else 0) == b
  | .int a, .bl b => a == (if b then 1 else 0)
  | .int a, .int b => a == b
  | .str a, .str b => a == b
  | _, _ => false
theorem eqAt_V {A : Around} {s : Shared} {y x : V} {u v : Value} (ry : RelV y u) (rx : RelV x v) (fy : flatV y = true) (fx : flatV x = true) : SeqAt.EqAt A s u v (eqV y x) := by
  cases y with
  | non =>
    cases ry
    cases x with
    | non => cases rx; exact SeqAt.EqAt.same _
    | bl b => cases rx; exact SeqAt.EqAt.none_bool b
    | int b => obtain ⟨t, rfl⟩ := rx; exact SeqAt.EqAt.none_int b t
    | str b => obtain ⟨t, rfl⟩ := rx; exact SeqAt.EqAt.none_str b t
    | _ => exact absurd (show false = true from fx) Bool.false_ne_true
  | bl a =>
    cases ry
    cases x with
    | non => cases rx; exact SeqAt.EqAt.bool_none a
    | bl b => cases rx; exact SeqAt.EqAt.bool_bool a b
    | int b => obtain ⟨t, rfl⟩ := rx; exact SeqAt.EqAt.bool_int a b t
    | str b => obtain ⟨t, rfl⟩ := rx; exact SeqAt.EqAt.bool_str a b t
    | _ => exact absurd (show false = true from fx) Bool.false_ne_true
  | int a =>
    obtain ⟨t', rfl⟩ := ry
    cases x with
    | non => cases rx; exact SeqAt.EqAt.int_none a t'
    | bl b => cases rx; exact SeqAt.EqAt.int_bool a t' b
    | int b => obtain ⟨t, rfl⟩ := rx; exact SeqAt.EqAt.int_int a t' b t
    | str b => obtain ⟨t, rfl⟩ := rx; exact SeqAt.EqAt.int_str a t' b t
    | _ => exact absurd (show false = true from fx) Bool.false_ne_true
  | str a =>
    obtain ⟨t', rfl⟩ := ry
    cases x with
    | non => cases rx; exact SeqAt.EqAt.str_none a t'
    | bl b => cases rx; exact SeqAt.EqAt.str_bool a t' b
    | int b => obtain ⟨t, rfl⟩ := rx; exact SeqAt.EqAt.str_int a t' b t
    | str b => obtain ⟨t, rfl⟩ := rx; exact SeqAt.EqAt.str_str a t' b t
    | _ => exact absurd (show false = true from fx) Bool.false_ne_true
  | _ => exact absurd (show false = true from fy) Bool.false_ne_true
def eqU (x : V) (u : Value) : Bool := match u with
  | .none => eqV .non x
  | .bool b => eqV (.bl b) x
  | .int i _ => eqV (.int i) x
  | .str z _ => eqV (.str z) x
  | _ => false
theorem eqU_of {x y : V} {u : Value} (r : RelV y u) (f : flatV y = true) : eqU x u = eqV y x := by
  cases y with
  | non => cases r; rfl
  | bl b => cases r; rfl
  | int i => obtain ⟨t, rfl⟩ := r; rfl
  | str z => obtain ⟨t, rfl⟩ := r; rfl
  | _ => exact absurd (show false = true from f) Bool.false_ne_true
theorem any_eqU {x : V} : ∀ {xs : List V} {us : List Value}, Vals xs us → xs.all flatV = true → us.any (eqU x) = xs.any fun y => eqV y x
  | _, _, .nil, _ => rfl
  | y :: xs, u :: us, .cons r t, f => by
    rw [List.all_cons, Bool.and_eq_true] at f
    rw [List.any_cons, List.any_cons, eqU_of r f.1, any_eqU t f.2]
theorem mem_eqAt {A : Around} {s : Shared} {x : V} {v : Value} (rx : RelV x v) (fx : flatV x = true) : ∀ {xs : List V} {us : List Value}, Vals xs us → xs.all flatV = true → ∀ u ∈ us, SeqAt.EqAt A s u v (eqU x u)
  | _, _, .nil, _ => fun u hu => by cases hu
  | y :: xs, u :: us, .cons r t, f => fun u' hu => by
    rw [List.all_cons, Bool.and_eq_true] at f
    rcases List.mem_cons.mp hu with rfl | hu
    · rw [eqU_of r f.1]; exact eqAt_V r rx f.1 fx
    · exact mem_eqAt rx fx t f.2 u' hu
def inV (x : V) (xs : List V) : Bool := xs.any fun y => eqV y x
def rIn (K : PySem.W.Frag) (neg : Bool) : R2 := fun x y H Q => ∃ p xs, y = .ref p ∧ (SqL K H p xs ∨ SqT K H p xs) ∧ flatV x = true ∧ xs.all flatV = true ∧ Q (.bl (if neg then !inV x xs else inV x xs)) H
theorem op_notIn_seq : OpR X (compareOp .NotIn) (rIn X.K true) := by
  intro pins s σ H x y v u Q I rx ry h
  obtain ⟨p, xs, rfl, hq, fx, fs, q⟩ := h
  cases ry
  rcases hq with hq | hq
  · obtain ⟨its, r, pl, hz⟩ := I.list hq
    refine SeqAt.notIn_listAt (eqU x) pl.isList (fun w hw => mem_eqAt rx fx r fs w (by simpa using hw)) ⟨.bl _, H, I, rfl, ?_⟩
    rw [show its.toArray.any (eqU x) = its.any (eqU x) by simp, any_eqU r fs]
    exact q
  · obtain ⟨its, r, pl, hz⟩ := I.tuple hq
    refine SeqAt.notIn_tupleAt (eqU x) pl (fun w hw => mem_eqAt rx fx r fs w (by simpa using hw)) ⟨.bl _, H, I, rfl, ?_⟩
    rw [show its.toArray.any (eqU x) = its.any (eqU x) by simp, any_eqU r fs]
    exact q
theorem call_len_seq : CallR X (.builtin "len") (fun xs H Q => ∃ p ys, xs = [.ref p] ∧ (SqL X.K H p ys ∨ SqT X.K H p ys) ∧ Q (.int ys.length) H) := by
  intro pins s σ H xs us Q I r h
  obtain ⟨p, ys, rfl, hq, q⟩ := h
  obtain ⟨u, rfl, rx⟩ := vals1 r
  cases rx
  have hn := line63
  rcases hq with hq | hq
  · obtain ⟨its, r', pl, hz⟩ := I.list hq
    have hlen := r'.length
    exact Calls.call_len_list pl.isList (by simp only [List.size_toArray] <;> omega) ⟨.int ys.length, H, I.tok _, ⟨s.toks + 1, by rw [List.size_toArray, hlen]⟩, q⟩
  · obtain ⟨its, r', pl, hz⟩ := I.tuple hq
    have hlen := r'.length
    exact len_tuple pl (by simp only [List.size_toArray] <;> omega) ⟨.int ys.length, H, I.tok _, ⟨s.toks + 1, by rw [List.size_toArray, hlen]⟩, q⟩
theorem call_tuple_of : CallR X (.type "tuple") (fun xs H Q => ∃ p ys, xs = [.ref p] ∧ ((SqL X.K H p ys ∧ ∀ l, H l = none → Q (.ref l) (upd H l (.tup ys))) ∨ (SqT X.K H p ys ∧ Q (.ref p) H))) := by
  intro pins s σ H xs us Q I r h
  obtain ⟨p, ys, rfl, h⟩ := h
  obtain ⟨u, rfl, rx⟩ := vals1 r
  cases rx
  rcases h with ⟨hq, q⟩ | ⟨hq, q⟩
  · obtain ⟨its, r', pl, hz⟩ := I.list hq
    have hlen := r'.length
    refine call_tuple_list pl.isList (fun h' kp => ?_) (by simp only [List.size_toArray] <;> omega)
    have I1 : Inv X pins σ H { s with heap := h' } := I.kept (t' := s.toks) kp
    have I2 : Inv X pins σ (upd H h'.objs.size (.tup ys)) { s with heap := h'.push { cls := .type "tuple", data := .seq its.toArray } } :=
      I1.laid (t' := s.toks) (fun b o e => Heap.get?_push_of_some _ e) (Nat.le_refl _) (show ObjOk X.prog X.w _ _ _ (.tup ys) from ⟨hz, its, r', IsTup.new _ _⟩)
    exact ⟨.ref h'.objs.size, _, I2, rfl, q _ (I1.hok.fresh (Nat.le_refl _))⟩
  · obtain ⟨its, r', pl, hz⟩ := I.tuple hq
    exact call_tuple_same pl ⟨.ref p, H, I, rfl, q⟩
def tyV (K : PySem.W.Frag) (T : String) (x : V) (H : Hp) : Prop := match x with
  | .str _ => T = "str"
  | .int _ => T = "int"
  | .ref p => (T = "list" ∧ ∃ xs, SqL K H p xs) ∨ (T = "tuple" ∧ ∃ o, K.lookup p = some o ∧ o.cls = .type "tuple" ∧ o.dict = none) ∨
      (T = "dict" ∧ ((∃ kvs, H p = some (.dK kvs)) ∨ ∃ kvs, H p = some (.dT kvs))) ∨ (T = "set" ∧ ∃ S n, H p = some (.set S n))
  | _ => False
theorem tyV_is {pins : List (Addr × Obj)} {σ : St} {H : Hp} {s : Shared} {T : String} {x : V} {v : Value} (I : Inv X pins σ H s) (r : RelV x v) (ty : tyV X.K T x H) :
    s.TypeIs v T ∧ ∀ a, v = .ref a → ∃ ob, s.heap.get? a = some ob ∧ ob.dict = none := by
  cases x with
  | str z =>
    obtain ⟨t, rfl⟩ := r
    cases (show T = "str" from ty)
    exact ⟨typeIs_str s z t, fun _ e => nomatch e⟩
  | int i =>
    obtain ⟨t, rfl⟩ := r
    cases (show T = "int" from ty)
    exact ⟨typeIs_int s i t, fun _ e => nomatch e⟩
  | ref p =>
    cases r
    rcases ty with ⟨rfl, xs, hq⟩ | ⟨rfl, o, hk, hc, hd⟩ | ⟨rfl, hk⟩ | ⟨rfl, S, n, hk⟩
    · obtain ⟨its, _, pl, _⟩ := I.list hq
      refine ⟨pl.isList.typeIs, fun a e => ?_⟩
      cases e
      obtain ⟨o, n, e, c, hd, _⟩ := pl
      exact ⟨o, e, hd⟩
    · refine ⟨⟨o, I.kIn p o hk, hc⟩, fun a e => ?_⟩
      cases e
      exact ⟨o, I.kIn _ o hk, hd⟩
    · have z : ∃ o, s.heap.get? p = some o ∧ o.ExactDict := by
        rcases hk with ⟨kvs, hk⟩ | ⟨kvs, hk⟩
        · obtain ⟨_, _, _, _, o, _, _, e, ex, _⟩ := I.hok p _ hk
          exact ⟨o, e, ex⟩
        · obtain ⟨_, _, _, _, o, _, _, e, ex, _⟩ := I.hok p _ hk
          exact ⟨o, e, ex⟩
      obtain ⟨o, e, ex⟩ := z
      refine ⟨⟨o, e, ex.1⟩, fun a e2 => ?_⟩
      cases e2
      exact ⟨o, e, ex.2.1⟩
    · obtain ⟨o, _, _, _, e, ex, _⟩ := I.hok p _ hk
      refine ⟨⟨o, e, ex.1⟩, fun a e2 => ?_⟩
      cases e2
      exact ⟨o, e, ex.2.1⟩
  | _ => exact False.elim ty
def tBM0 (K : PySem.W.Frag) (T : String) (r : V → List V → Hp → VK → Prop) (to : TE) : TE := fun σ H Q => to σ H fun x H1 => tyV K T x H1 ∧ r x [] H1 Q
def tBM (K : PySem.W.Frag) (T : String) (r : V → List V → Hp → VK → Prop) (to : TE) (t : TA) : TE := fun σ H Q => to σ H fun x H1 => tyV K T x H1 ∧ t σ H1 fun xs H2 => r x xs H2 Q
variable {o e : Expr} {es : List Expr} {to : TE} {t : TA} {name : Str} {apos cpos : Pos} {T id : String} {r : V → List V → Hp → VK → Prop}
theorem pe_bm (pa : PlainAttrs T) (slot : Slot T name id) (hty : typeOf (.builtin id) = pure (.type "method_descriptor")) (hm : MtR X id r) (ho : PE X o to) (ha : PA X (e :: es) t)
    (hbase : attributeBase o name X.env (eval o X.env) = eval o X.env := by rfl)
    (hfew : ((backTo cpos (starEach (e :: es) X.env)).all (fun x => !x.1) && (backToKw cpos (keywordEach [] X.env)).all (fun x => x.1.isSome)
      && decide ((e :: es).length + ([] : List Keyword).length + (if ([] : List Keyword).isEmpty then 0 else 1) < 30)) = true := by rfl)
    (hline : (apos.endLine == cpos.line) = true := by rfl) (hs : starEach (e :: es) X.env = (false, eval e X.env) :: starEach es X.env := by rfl) (hplain : (backTo cpos (starEach es X.env)).any (·.1) = false := by rfl) :
    PE X (.Call (.Attribute o name apos) (e :: es) [] cpos) (tBM X.K T r to t) := by
  intro pins s σ H Q I h
  refine wpAny_Call_method_late hbase hfew hline rfl (thn (ho pins s σ H _ I h) fun v s1 ⟨x, H1, I1, r1, ty, q1⟩ => ?_)
  obtain ⟨h1, h2⟩ := tyV_is I1 r1 ty
  refine ⟨T, id, pa, slot, hty, h1, h2, ?_⟩
  have hA := ha cpos pins s1 σ H1 _ I1 q1
  rw [hs] at hA ⊢
  refine Calls.callWith_builtin (by show (false || (backTo cpos (starEach es X.env)).any (·.1)) = false; rw [hplain] <;> rfl) (Calls.evalArgs_plain ?_)
  exact thn hA fun us s2 ⟨vs, H2, I2, r2, q2⟩ => hm pins s2 σ H2 x vs v us Q I2 r1 r2 q2
end
end L2
namespace L2
open PySem PySem.Spec PyProof.Rows
def MtM (X : Cx) (id : String) (r : V → List V → Hp → VK → Prop) : Prop :=
  ∀ (pins : List (Addr × Obj)) (s : Shared) (σ : St) (H : Hp) (x : V) (xs : List V) (v : Value) (us : List Value) (Q : VK), Inv X pins σ H s → RelV x v → Vals xs us → r x xs H Q →
    wpAny (model X.prog X.w) X.A (call (.builtin id) (v :: us)) (EP X pins σ Q) X.xe s
theorem Vals.one : ∀ {x : V} {us : List Value}, Vals [x] us → ∃ u, us = [u] ∧ RelV x u
  | _, _, .cons r .nil => ⟨_, rfl, r⟩
theorem Vals.zero : ∀ {us : List Value}, Vals [] us → us = []
  | _, .nil => rfl
theorem Vals.dropLast {xs : List V} {us : List Value} (h : Vals xs us) : Vals xs.dropLast us.dropLast := by
  induction h with
  | nil => exact .nil
  | cons r t ih =>
    cases t with
    | nil => exact .nil
    | cons q t' => exact .cons r ih
theorem Vals.eraseIdx : ∀ {xs : List V} {us : List Value} (i : Nat), Vals xs us → Vals (xs.eraseIdx i) (us.eraseIdx i)
  | _, _, _, .nil => .nil
  | _, _, 0, .cons _ t => t
  | _, _, i + 1, .cons r t => .cons r (Vals.eraseIdx i t)
theorem Vals.reverse {xs : List V} {us : List Value} (h : Vals xs us) : Vals xs.reverse us.reverse := by
  induction h with
  | nil => exact .nil
  | cons r t ih => rw [List.reverse_cons, List.reverse_cons]; exact Vals.append ih (.cons r .nil)
theorem Vals.rep {xs : List V} {us : List Value} (h : Vals xs us) : ∀ k : Nat, Vals (List.replicate k xs).flatten (List.replicate k us).flatten
  | 0 => .nil
  | k + 1 => by
    rw [List.replicate_succ, List.replicate_succ, List.flatten_cons, List.flatten_cons]
    exact Vals.append h (Vals.rep h k)
theorem len_erase {α : Type} : ∀ (l : List α) (i : Nat), (l.eraseIdx i).length ≤ l.length
  | [], _ => Nat.le_refl _
  | _ :: _, 0 => Nat.le_succ _
  | _ :: r, i + 1 => Nat.succ_le_succ (len_erase r i)
section
variable {X : Cx} {pins : List (Addr × Obj)} {σ : St} {H : Hp} {s : Shared} {l b : Addr} {xs ys zs : List V}
theorem Inv.lset {its its' : List Value} {n : Nat} {f : Array Value → Array Value} {t' : Nat} (I : Inv X pins σ H s) (hH : H l = some (.lst xs))
    (e : s.heap.get? l = some { cls := .type "list", data := .seq its.toArray n }) (hf : f its.toArray = its'.toArray) (hv : Vals ys its') (hz : ys.length ≤ sizeLine) :
    Inv X pins σ (upd H l (.lst ys)) { s with heap := s.heap.update l (Obj.mapSeq f), toks := t' } := by
  have q := PySem.IsL.update e f
  rw [hf] at q
  refine I.write (x := l) (e := l) (by rw [hH]; exact trivial) (.inl rfl) (fun b' u hb hu => (Heap.get?_update_other s.heap (Obj.mapSeq f) (Ne.symm hb)).trans hu) ⟨_, q⟩ ?_
  exact ⟨hz, its', _, hv, q⟩
theorem Inv.fresh (I : Inv X pins σ H s) : H s.heap.objs.size = none := I.hok.fresh (Nat.le_refl _)
theorem Inv.lstM (I : Inv X pins σ H s) (hH : H l = some (.lst xs)) : xs.length ≤ sizeLine ∧ ∃ (its : List Value) (n : Nat), Vals xs its ∧ xs.length = its.length ∧ s.heap.get? l = some { cls := .type "list", data := .seq its.toArray n } := by
  obtain ⟨z, its, n, r, e⟩ := I.hok l _ hH
  exact ⟨z, its, n, r, r.length, e⟩
end
section
variable {X : Cx}
def rAppend : V → List V → Hp → VK → Prop := fun x vs H Q => ∃ l xs y, x = .ref l ∧ vs = [y] ∧ H l = some (.lst xs) ∧ xs.length < sizeLine ∧ Q .non (upd H l (.lst (xs ++ [y])))
theorem mt_append : MtM X "list.append" rAppend := by
  intro pins s σ H x vs v us Q I rx rv h
  obtain ⟨l, xs, y, rfl, rfl, hH, hz, q⟩ := h
  cases rx
  obtain ⟨u, rfl, ru⟩ := rv.one
  obtain ⟨z, its, n, r, hl, e⟩ := I.lstM hH
  refine call_meets F.slot_list_append ⟨_, e, rfl⟩ F.entry_list_append (F.args_list_append_2 _ _) (PySem.list_append l its.toArray n u (by rw [List.size_toArray]; omega)) ⟨e, ?_⟩
  refine ⟨.non, _, I.lset (its' := its ++ [u]) hH e (by simp) (r.append (.cons ru .nil)) ?_, rfl, q⟩
  rw [List.length_append, List.length_singleton]
  omega
def rExtend : V → List V → Hp → VK → Prop := fun x vs H Q => ∃ l b xs zs, x = .ref l ∧ vs = [.ref b] ∧ H l = some (.lst xs) ∧ H b = some (.lst zs) ∧ xs.length + zs.length ≤ sizeLine ∧ Q .non (upd H l (.lst (xs ++ zs)))
def rPopAt : V → List V → Hp → VK → Prop := fun x vs H Q => ∃ l xs i k y, x = .ref l ∧ vs = [.int i] ∧ H l = some (.lst xs) ∧ -(2 ^ 63) ≤ i ∧ i < 2 ^ 63 ∧ seqIndex? i xs.length = some k ∧ xs[k]? = some y ∧ Q y (upd H l (.lst (xs.eraseIdx k)))
theorem mt_popAt : MtM X "list.pop" rPopAt := by
  intro pins s σ H x vs v us Q I rx rv h
  obtain ⟨l, xs, i, k, y, rfl, rfl, hH, h1, h2, hk, hy, q⟩ := h
  cases rx
  obtain ⟨u, rfl, ru⟩ := rv.one
  obtain ⟨t, rfl⟩ := ru
  obtain ⟨z, its, n, r, hl, e⟩ := I.lstM hH
  obtain ⟨w, hw, rw'⟩ := r.get hy
  refine call_meets F.slot_list_pop ⟨_, e, rfl⟩ F.entry_list_pop (F.args_list_pop_2 _ _)
    (MeetsSeq.list_pop_at l its.toArray n i t k w (fitsIndex_both h1 h2) (by rw [List.size_toArray, ← hl]; exact hk) (by rw [← Array.getElem?_toList]; exact hw) (by rw [List.size_toArray]; omega)) ⟨e, ?_⟩
  refine ⟨y, _, I.lset (its' := its.eraseIdx k) hH e ?_ (r.eraseIdx k) ?_, rw', q⟩
  · show its.toArray.eraseIdxIfInBounds k = (its.eraseIdx k).toArray
    rw [List.eraseIdxIfInBounds_toArray]
  · have := len_erase xs k
    omega
def rCat : R2 := fun x y H Q => ∃ l b xs zs, x = .ref l ∧ y = .ref b ∧ H l = some (.lst xs) ∧ H b = some (.lst zs) ∧ xs.length + zs.length ≤ sizeLine ∧ ∀ p, H p = none → Q (.ref p) (upd H p (.lst (xs ++ zs)))
def rRep : R2 := fun x y H Q => ∃ l k xs, x = .ref l ∧ y = .int k ∧ H l = some (.lst xs) ∧ -(2 ^ 63) ≤ k ∧ k < 2 ^ 63 ∧ xs.length * k.toNat ≤ sizeLine ∧
  ∀ p, H p = none → Q (.ref p) (upd H p (.lst (List.replicate k.toNat xs).flatten))
theorem len_rep {α : Type} (xs : List α) (k : Nat) : (List.replicate k xs).flatten.length = k * xs.length := by
  induction k with
  | zero => simp
  | succ k ih => rw [List.replicate_succ, List.flatten_cons, List.length_append, ih, Nat.succ_mul, Nat.add_comm]
end
section
variable {prog : Program} {w : World} {A : Around} {E : Value → Shared → Prop} {s : Shared}
end
section
variable {X : Cx}
end
end L2
namespace Att
open PySem PySem.W PySem.Calls PyProof.Rows
theorem ints_of_wellAll {P : Params} {h : Heap} : ∀ (ns : List Int) (vs : List Value), WellAll P h vs (ns.map WData.int) → IntsAre vs ns := by
  intro ns
  induction ns with
  | nil =>
    intro vs w
    rw [List.map_nil] at w
    cases w
    exact .nil
  | cons n ns ih =>
    intro vs w
    rw [List.map_cons] at w
    cases w with
    | cons a b =>
      cases a
      exact .cons _ _ (ih _ b)
theorem script_of {l : OpenLaw} {n : Nat} (hn : l.most = some n) {P : Params} {h : Heap} {args : List WData} {vals : List Value}
    (hpre : l.row.toRowW.claim.pre args = true) (hwl : WellAll P h vals args) :
    ∃ a vs ns, vals = [Value.ref a] ∧ args = [WData.list (ns.map WData.int)] ∧ h.get? a = some { cls := .type "list", data := .seq vs.toArray } ∧ IntsAre vs ns ∧ ns.length ≤ n := by
  have hsh : WShape.hasAll [] args [.list .int] = true := (pre_splitW hpre).1
  have hc : l.pre.holds [] { args := args } = true := (pre_splitW hpre).2
  obtain ⟨d, r, rfl, h1, h2⟩ := hasAllW_cons hsh
  obtain rfl := hasAllW_nil h2
  obtain ⟨xs, rfl, h3⟩ := hasW_list h1
  obtain ⟨ns, rfl⟩ := items_int h3
  have hlen : ns.length ≤ n := by
    unfold OpenLaw.pre at hc
    have h4 : (WTm.not (.lt (.lit (.int (n : Int))) (.len (.arg 0)))).holds [] { args := [.list (ns.map .int)] } = true := by
      have h4 := (holds_andW hc).1
      rw [hn] at h4
      exact h4
    have h5 := condW_of h4 (w_not (w_lt w_lit (w_len_list (w_arg rfl))))
    rw [List.length_map] at h5
    refine Nat.le_of_not_lt fun q => ?_
    have q' : (n : Int) < ((ns.length : Nat) : Int) := by omega
    first
      | (rw [decide_eq_true q'] at h5; exact absurd h5 (by decide))
      | (simp at h5; omega)
  cases hwl with
  | cons w1 w2 =>
    cases w2
    cases w1 with
    | list ho hall => exact ⟨_, _, ns, rfl, rfl, ho, ints_of_wellAll ns _ hall, hlen⟩
theorem post_true (l : OpenLaw) (args : List WData) : l.row.toRowW.claim.post args (.bool true) args = true :=
  postW_of (r := l.row.toRowW) (X := (true == true))
    (show WShape.has [] (.bool true) .bool = true by first | rfl | decide | simp [WShape.has, WShape.arms, WShape.armsAll])
    (show (WTm.eq .res (.lit (.bool true))).value [] { args := args, res := some (.bool true), after := args } = some (.bool (true == true)) from w_eq_bool (w_res rfl) w_lit) rfl
theorem attach_call {l : OpenLaw} {n : Nat} {q : Program} {loose : List Str} {XP : (Str → Option Value) → Heap → Prop} {YP : World → Heap → Prop} {d : DefRec}
    (hn : l.most = some n) (hdf : d.params.defaults = [])
    (call : ∀ (w : World) (s₀ s₁ : Shared) (mg mb : Str → Option Value) (fa : Addr) (o : Obj) (pm cd doc : Value) (a : Addr) (vs : List Value) (ns : List Int),
      Ground q loose [] XP w s₀ mg mb s₁.heap → YP w s₁.heap →
      s₁.heap.get? fa = some o → o.data = .func (docDef d.name d.params d.body d.scope pm cd doc) → s₁.heap.CodeRec cd d.name → mg d.name = some (.ref fa) →
      s₁.heap.get? a = some { cls := .type "list", data := .seq vs.toArray } → IntsAre vs ns → ns.length ≤ n → s₁.gens = #[] →
      codeAny (model l.prog w) callerA (.call (.ref fa) ⟨[.ref a], []⟩) (fun r s' => r = .ok (.ret (.bool true)) ∧ OldK s₁.heap s'.heap ∧ s'.os = s₁.os ∧ AllBare s'.gens) s₁) :
    WalkO q loose XP YP l.row.toRowW d [] (fun f vs => PySem.call f vs) := by
  intro w s₀ s₁ mg mb G Y fa o pm cd doc dV kV ho hd hcd hD hmg hg args vals as hpre hlay hrd hwl hlo
  obtain rfl : dV = .none := Dflts.none hD hdf
  obtain rfl : kV = .none := Dflts.noKw hD
  obtain ⟨a, vs, ns, rfl, rfl, hobj, hints, hlen⟩ := script_of hn hpre hwl
  refine enter_call (codeAny_mono (call w s₀ s₁ mg mb fa o pm cd doc a vs ns G Y ho (fd_plain hd) hcd hmg hobj hints hlen hg) fun r s' hq => ?_)
  obtain ⟨rfl, h2, h3, h4⟩ := hq
  exact ⟨.inl ⟨.bool true, .bool true, [], rfl, fun _ => rfl, .bool true, post_true l _, fun _ => ⟨List.Pairwise.nil, fun _ hm => (nomatch hm)⟩⟩, h2, h3, h4⟩
section
variable {prog : Program} {w : World} {A : Around} {E : Value → Shared → Prop} {s : Shared} {K : Frag}
end
end Att
namespace L2
open PySem PySem.Spec PyProof.Rows
theorem vals_ints : ∀ {vs : List Value} {ns : List Int}, IntsAre vs ns → Vals (ns.map V.int) vs
  | _, _, .nil => .nil
  | _, _, .cons n t h => .cons ⟨t, rfl⟩ (vals_ints h)
def Only (H : Hp) : Prop := ∀ b, H b = none ∨ ∃ o xs, H b = some (.frz o (.lst xs))
theorem law_call {P : Program} {w : World} {K : PySem.W.Frag} {mg mb : Str → Option Value} {CX : CXT} {k : Nat} {fa a : Addr} {fd : FuncData} {x : Str} {sp : Sp} {s₁ : Shared} {vs : List Value} {ns : List Int}
    (KX : K.In s₁.heap) (hns : s₁.heap.Ns mainGlobals mg) (hb : s₁.heap.Ns builtinsNs mb) (hbb : ∀ x : Str, x ≠ "__name__" → mb x = bootBuiltins x) (hlim : s₁.heap.NoLimit) (hg : s₁.gens = #[])
    (ha : s₁.heap.get? a = some { cls := .type "list", data := .seq vs.toArray }) (hi : IntsAre vs ns) (hl : ns.length ≤ sizeLine) (hr : Room k callerA)
    (F : ∀ base : Heap, K.In base → base.Ns mainGlobals mg → FnOk P w K mg base CX k fa fd [x] sp) (hbind : ∀ (s : Shared) (u : Value), BindsTo s fd ⟨[u], []⟩ [(x, u)])
    (hsp : ∀ H : Hp, Only H → SqL K H a (ns.map V.int) → sp [.ref a] H (fun v _ => v = .bl true) fun _ _ _ => False)
    (hCX : ∀ H e s', CX [] H s₁ (fun _ _ _ => False) e s' → False) :
    codeAny (model P w) callerA (.call (.ref fa) ⟨[.ref a], []⟩) (fun r s' => r = .ok (.ret (.bool true)) ∧ OldK s₁.heap s'.heap ∧ s'.os = s₁.os ∧ AllBare s'.gens) s₁ := by
  have rv := vals_ints hi
  have lenV := hi.length
  have core : ∀ H : Hp, Only H → SqL K H a (ns.map V.int) → HOk P w H s₁.heap → (∀ b, H b ≠ none → b = a) → (H a ≠ none → K.lookup a = none) →
      codeAny (model P w) callerA (.call (.ref fa) ⟨[.ref a], []⟩) (fun r s' => r = .ok (.ret (.bool true)) ∧ OldK s₁.heap s'.heap ∧ s'.os = s₁.os ∧ AllBare s'.gens) s₁ := by
    intro H hO hS hok hA hK
    have base_of : ∀ {b : Addr} {o : Obj}, s₁.heap.get? b = some o → H b = none → (hidT s₁.heap H).get? b = some o := fun e n => hidT_get e n
    have noA : ∀ {b : Addr} {o : Obj} {es : Array DictEntry} {ep : Nat}, s₁.heap.get? b = some o → o.data = .dict es ep → H b = none := fun {b o es ep} e d => by
      cases q : H b with
      | none => rfl
      | some u =>
        have e' : b = a := hA b (by rw [q]; simp)
        subst e'
        rw [ha] at e; cases e
        have d' : Data.seq vs.toArray _ = Data.dict es ep := d
        cases d'
    have nsK : ∀ {b : Addr} {m : Str → Option Value}, s₁.heap.Ns b m → (hidT s₁.heap H).Ns b m := fun {b m} ⟨o, es, ep, e, d, r⟩ => ⟨o, es, ep, base_of e (noA e d), d, r⟩
    have hKb : K.In (hidT s₁.heap H) := fun b o e => base_of (KX b o e) (by
      cases q : H b with
      | none => rfl
      | some u =>
        have e' : b = a := hA b (by rw [q]; simp)
        subst e'
        rw [hK (by rw [q]; simp)] at e; cases e)
    have hM : Mod K mg (hidT s₁.heap H) := ⟨hKb, nsK hns, ⟨mb, nsK hb, hbb⟩, let ⟨mc, h1, h2⟩ := hlim; ⟨mc, nsK h1, h2⟩⟩
    have e0 : Env0 P w K mg (hidT s₁.heap H) callerA [] s₁ H := ⟨rfl, hM, fun b o e => of_hidT e, Nat.le_of_eq (hidT_size _ _), trivial, fun b hb => absurd (show b ∈ ([] : List Addr) from hb) (by simp), hok, .of_eq hg⟩
    refine codeAny_mono ((F _ hKb (nsK hns)).run callerA [] s₁ H ⟨[.ref a], []⟩ [.ref a] [.ref a] _ _ hr e0 (hbind s₁ (.ref a)) (.cons rfl .nil) (hsp H hO hS)) fun r s' h => ?_
    cases r with
    | error e => exact (hCX H e s' h).elim
    | ok fl =>
      cases fl with
      | next => exact False.elim h
      | brk => exact False.elim h
      | cont => exact False.elim h
      | ret u =>
        obtain ⟨v, H', os, bare, un, hok', r', q⟩ := h
        have q' : v = .bl true := q
        subst q'
        obtain rfl : u = Value.bool true := r'
        refine ⟨rfl, OldK.of_keep fun b o e => ?_, os, bare⟩
        cases q : H b with
        | none => exact un.keep b o e q (by intro z; exact absurd (show b ∈ ([] : List Addr) from z) (by simp)) (by simp)
        | some u =>
          rcases hO b with z | ⟨ob, xs, z⟩
          · rw [q] at z; cases z
          · have z2 := un.frzs b ob _ z
            obtain ⟨e1, _⟩ := hok b _ z
            obtain ⟨e2, _⟩ := hok' b _ z2
            rw [e] at e1; cases e1
            exact e2
  cases hk : K.lookup a with
  | some o =>
    have e := KX a o hk
    rw [ha] at e
    cases e
    refine core (fun _ => none) (fun _ => .inl rfl) (.inr ⟨_, vs.toArray, _, hk, rfl, rfl, rfl, by rw [List.size_toArray, lenV]; exact hl, by simpa using rv⟩) (fun b u z => by have z' : (none : Option HO) = some u := z; cases z') (fun b z => absurd rfl z) fun z => absurd rfl z
  | none =>
    refine core (fun b => if b = a then some (.frz { cls := .type "list", data := .seq vs.toArray } (.lst (ns.map V.int))) else none) (fun b => ?_) (.inl (.inr ⟨{ cls := .type "list", data := .seq vs.toArray }, if_pos rfl⟩)) (fun b u z => ?_) (fun b z => ?_) fun _ => hk
    · by_cases hb : b = a
      · exact .inr ⟨_, _, if_pos hb⟩
      · exact .inl (if_neg hb)
    · by_cases hb : b = a
      · have z' := (if_pos hb).symm.trans z
        cases z'
        subst hb
        exact ⟨ha, by rw [List.length_map]; exact hl, vs, _, rv, ha⟩
      · have z' := (if_neg hb).symm.trans z
        cases z'
    · by_cases hb : b = a
      · exact hb
      · exact absurd (if_neg hb) z
end L2
namespace L2
open PySem PySem.Spec PyProof.Rows
theorem walk_of {l : PySem.W.OpenLaw} {n k : Nat} {q : Program} {loose : List Str} {XP : (Str → Option Value) → Heap → Prop} {YP : World → Heap → Prop} {d : DefRec} {K : Params → PySem.W.Frag} {CX : World → CXT} {sp : World → Sp} {x : Str}
    (hn : l.most = some n) (hn2 : n ≤ sizeLine) (hdf : d.params.defaults = []) (hr : Room k callerA)
    (hY : ∀ (w : World) (h : Heap), YP w h → (K w.params).In h)
    (F : ∀ (w : World) (mg : Str → Option Value) (fa : Addr) (h : Heap), (K w.params).In h → h.Ns mainGlobals mg → mg d.name = some (.ref fa) →
      ∃ fd : FuncData, (∀ (s : Shared) (u : Value), BindsTo s fd ⟨[u], []⟩ [(x, u)]) ∧
        ∀ base : Heap, (K w.params).In base → base.Ns mainGlobals mg → FnOk l.prog w (K w.params) mg base (CX w) k fa fd [x] (sp w))
    (hsp : ∀ (w : World) (H : Hp) (a : Addr) (ns : List Int), ns.length ≤ n → Only H → SqL (K w.params) H a (ns.map V.int) → sp w [.ref a] H (fun v _ => v = .bl true) fun _ _ _ => False)
    (hCX : ∀ (w : World) (H : Hp) (s : Shared) (e : Value) (s' : Shared), CX w [] H s (fun _ _ _ => False) e s' → False) :
    PySem.W.WalkO q loose XP YP l.row.toRowW d [] (fun f vs => PySem.call f vs) := by
  refine Att.attach_call hn hdf fun w s₀ s₁ mg mb fa o pm cd doc a vs ns G Y ho hd hcd hmg hobj hints hlen hg => ?_
  have KX := hY w _ Y
  obtain ⟨fd, hb, hF⟩ := F w mg fa _ KX G.T.g hmg
  exact law_call KX G.T.g G.T.b G.T.builtins G.T.nolimit hg hobj hints (Nat.le_trans hlen hn2) hr hF hb (fun H hO hS => hsp w H a ns hlen hO hS) fun H e s' => hCX w H s₁ e s'
end L2
namespace L2
open PySem PySem.Spec PyProof.Rows
def defArgs (s : Stmt) : Arguments := match s with
  | .FunctionDef _ a _ _ _ _ _ _ _ _ => a
  | _ => { posonlyargs := [], args := [], vararg := none, kwonlyargs := [], kw_defaults := [], kwarg := none, defaults := [] }
def defBody (s : Stmt) : List Stmt := match s with
  | .FunctionDef _ _ b _ _ _ _ _ _ _ => b
  | _ => []
def defScope (s : Stmt) : Scope := match s with
  | .FunctionDef _ _ _ _ _ _ sc _ _ _ => sc
  | _ => { kind := .function, names := [], isGenerator := false, isCoroutine := false }
abbrev CX0 : CXT := fun _ _ _ _ _ _ => False
abbrev E0 : XK := fun _ _ _ => False
theorem pass0 {X : Cx} : Passes CX0 X E0 := fun _ _ _ _ _ _ _ h => h.elim
structure Fun (K : PySem.W.Frag) (x qual : Str) (st : Stmt) (f : Addr) (fd : FuncData) : Prop where
  ex : ∃ (oc : Value) (od : Option Addr) (kV doc pm : Value) (an : Option Addr) (cdv ct : Value) (osl : Array (Option Value)),
    fd = PySem.W.fnOf x qual (defArgs st) (defBody st) (defScope st) .none kV doc pm an cdv ct ∧ K.lookup f = some ⟨oc, od, .func fd, osl⟩ ∧ PySem.W.codeIn K cdv qual = true
  kp : PySem.W.keepIn K (.ref f) = true
section
variable {P : Program} {w : World} {K : PySem.W.Frag} {mg : Str → Option Value} {base : Heap}
theorem Fun.ok {x qual : Str} {st : Stmt} {f : Addr} {fd : FuncData} {N ps : List Str} {k : Nat} {sp : Sp} (F : Fun K x qual st f fd) (S : FnScope N ps (defScope st)) (len : ∀ vs H Q E, sp vs H Q E → vs.length = ps.length)
    (hbody : ∀ (cdv : Value) (A : Around) (outer : List Env) (s : Shared) (H : Hp) (vs : List V) (Q : VK) (E : XK), Room k (A.deeper (envOfC qual (defScope st) s.heap.objs.size f cdv)) → sp vs H Q E →
      ∃ t, PSs (cxOf CX0 P w K mg base N qual (defScope st) f cdv A outer s H E).nox (defBody st) t ∧ t { nx := fun _ H' => Q .non H', rt := Q } (start N vs) H) : FnOk P w K mg base CX0 (k + 1) f fd ps sp := by
  obtain ⟨oc, od, kV, doc, pm, an, cdv, ct, osl, rfl, lk, hcd⟩ := F.ex
  refine fn_of lk hcd S len fun A outer s H vs Q E hr hsp => ?_
  obtain ⟨t, h, q⟩ := hbody cdv A outer s H vs Q E hr hsp
  exact ⟨t, h.nox, q⟩
theorem Fun.binds {x qual : Str} {st : Stmt} {f : Addr} {fd : FuncData} {ps : List Str} (F : Fun K x qual st f fd)
    (h : ∀ (kV doc pm : Value) (an : Option Addr) (cdv ct : Value) (us : List Value), us.length = ps.length → bindArgs (PySem.W.fnOf x qual (defArgs st) (defBody st) (defScope st) .none kV doc pm an cdv ct) ⟨us, []⟩ = pure (ps.zip us)) : Binds K fd ps [] := by
  obtain ⟨oc, od, kV, doc, pm, an, cdv, ct, osl, rfl, lk, hcd⟩ := F.ex
  exact .all (h kV doc pm an cdv ct)
theorem fun_mk {x qual : Str} {st : Stmt} {f : Addr} {oc : Value} {od an : Option Addr} {osl : Array (Option Value)} {kV doc pm cdv ct : Value} (l : K.lookup f = some ⟨oc, od, .func (PySem.W.fnOf x qual (defArgs st) (defBody st) (defScope st) .none kV doc pm an cdv ct), osl⟩)
    (c : PySem.W.codeIn K cdv qual = true) (k : PySem.W.keepIn K (.ref f) = true) : Fun K x qual st f (PySem.W.fnOf x qual (defArgs st) (defBody st) (defScope st) .none kV doc pm an cdv ct) := ⟨⟨oc, od, kV, doc, pm, an, cdv, ct, osl, rfl, l, c⟩, k⟩
end
theorem small1000 {n : Nat} (h : n ≤ 1000) : n < sizeLine := Nat.lt_of_le_of_lt h (by decide)
section
variable {X : Cx}
theorem pv (i : Nat) {x : Str} {pos : Pos} (hN : X.N[i]? = some x := by rfl) (hv : Vis X.env.scope x := by first | exact Or.inl rfl | exact Or.inr (Or.inl rfl) | exact Or.inr (Or.inr rfl)) (hd : (x == ("__debug__" : Str)) = false := by decide)
    (hcd : (x == ("__classdict__" : Str)) = false := by decide) : PE X (.Name x pos) (tVar i) := pe_var hN hv hd hcd
end
def Same (H H' : Hp) : Prop := ∀ b o, H b = some o → H' b = some o
theorem Same.refl (H : Hp) : Same H H := fun _ _ h => h
theorem Same.trans {H H1 H2 : Hp} (a : Same H H1) (b : Same H1 H2) : Same H H2 := fun c o h => b c o (a c o h)
theorem Same.free {H H' : Hp} (e : Same H H') {l : Addr} (h : H' l = Option.none) : H l = Option.none := by
  cases q : H l with
  | none => rfl
  | some o =>
    rw [e l o q] at h
    cases h
theorem Same.seq {K : PySem.W.Frag} {H H' : Hp} {a : Addr} {xs : List V} (e : Same H H') (h : SqL K H a xs) : SqL K H' a xs := by
  rcases h with (h | ⟨o, h⟩) | h
  · exact .inl (.inl (e _ _ h))
  · exact .inl (.inr ⟨o, e _ _ h⟩)
  · exact .inr h
end L2
set_option maxHeartbeats 4000000
namespace L2
open PySem PySem.Spec PyProof.Rows
section
variable {prog : Program} {w : World} {A : Around} {R : Result → Shared → Prop} {s : Shared}
theorem compLoop_any {elt target iter : Expr} {scope : Scope} {pos : Pos} {it acc : Value} {env : Env} (I : Nat → Shared → Prop)
    (turn : ∀ n s, I n s → wpAny (model prog w) A (pyNext it) (fun r s₁ => match r with
      | none => R (.ok .next) s₁
      | some v => wpAny (model prog w) A (letOwnedTupleGo target it v) (fun _ s₀ => wpAny (model prog w) A (assign target env v) (fun _ s₂ => wpAny (model prog w) A (eval elt env) (fun x s₃ =>
          wpAny (model prog w) A (call (.builtin "list.append") [acc, x]) (fun _ s₄ => ∃ m, m < n ∧ I m s₄) (fun _ _ => False) s₃)
          (fun _ _ => False) s₂) (fun _ _ => False) s₀) (fun _ _ => False) s₁) (fun _ _ => False) s)
    (n : Nat) (h : I n s) :
    codeAny (model prog w) A (.compLoop (.ListComp elt [⟨target, iter, [], 0⟩] scope pos) 0 it acc env) R s := by
  refine codeAny_loop rfl I (fun n s hI => ?_) n h
  show wpAny _ _ ((compTurn (.ListComp elt [⟨target, iter, [], 0⟩] scope pos) 0 it acc env).onRaise (fun x => do noteFrame x env; theTreesLotGoes x)) _ _ s
  refine wpAny_noted ?_
  rw [compTurn_list1]
  refine wpAny_bind (wpAny_standAt (wpAny_bind (wpAny_mono (turn n s hI) (fun r s₁ h₁ => ?_) fun _ _ h' => h'.elim)))
  cases r with
  | none => exact wpAny_pure h₁
  | some v =>
    refine wpAny_bind (wpAny_mono h₁ (fun _ s₀ h₀ => ?_) fun _ _ h' => h'.elim)
    exact wpAny_bind (wpAny_mono h₀ (fun _ s₂ h₂ => wpAny_bind (wpAny_bind (wpAny_mono h₂ (fun x s₃ h₃ => wpAny_bind (wpAny_mono h₃
      (fun _ s₄ h₄ => wpAny_pure (wpAny_pure ⟨rfl, h₄⟩)) fun _ _ h' => h'.elim)) fun _ _ h' => h'.elim))) fun _ _ h' => h'.elim)
end
def cxComp (X : Cx) (N : List Str) (scope : Scope) (cl : List (Str × Addr)) (C : Addr) (ex : List Addr) (s : Shared) (H : Hp) : Cx where
  prog := X.prog
  w := X.w
  K := X.K
  mg := X.mg
  base := X.base
  A := X.A
  N := N
  s₀ := s
  H₀ := H
  env := compEnvC scope cl C X.env
  outer := X.stack
  stack := X.stack
  ex := ex
  fn := fun _ => false
  calm := X.calm
  pn := X.pn
  xe := fun _ _ => False
def compSt (k : Nat) (js : List Nat) (σ : St) : St := List.replicate k none ++ js.map fun j => (σ[j]?).join
def tComp (wi : TI) (k : Nat) (js : List Nat) (g : TG) (te : TE) : TE := fun σ H Q => wi σ H fun J H1 =>
  ∃ W : Nat → Nat → List V → St → Hp → Prop, (∃ m, W 0 m [] (compSt k js σ) H1) ∧ ∀ i m ys σ' H', W i m ys σ' H' →
    (J.stop i H' ∧ ∀ p, H' p = none → Q (.ref p) (upd H' p (.lst ys))) ∨
    (J.go i H' ∧ ys.length < sizeLine ∧ ∃ N : List V → St → Hp → Prop, (∀ zs σ2 H2, N zs σ2 H2 → ∃ m', m' < m ∧ W (i + 1) m' zs σ2 H2) ∧
      ∀ x H2, J.yld i H' x H2 → g x σ' H2 fun σ3 H3 => te σ3 H3 fun v H4 => N (ys ++ [v]) σ3 H4)
structure Cap (X : Cx) (scope : Scope) (cl : List (Str × Addr)) (x : Str) (j : Nat) : Prop where
  at_ : X.N[j]? = some x
  out : X.env.scope.names.lookup x = some .cell ∨ X.env.scope.names.lookup x = some .free
  inn : (relabel scope X.env).names.lookup x = some .cell ∨ (relabel scope X.env).names.lookup x = some .free
theorem join_some {σ : St} {j : Nat} {v : V} (h : (σ[j]?).join = some v) : σ[j]? = some (some v) := by
  cases e : σ[j]? with
  | none => rw [e] at h; cases h
  | some o =>
    rw [e] at h
    cases o with
    | none => cases h
    | some u => cases h; rfl
theorem comp_core {X : Cx} {elt tg iter : Expr} {scope : Scope} {cl : List (Str × Addr)} {pos : Pos} {own fv : List Str} {js : List Nat} {wi : TI} {g : TG} {te : TE}
    (hc : X.calm = true) (hi : PI X tg iter wi) (hclos : closureFor scope X.env = pure cl) (hcell : ∀ y ∈ scope.names, y.2 ≠ .cell) (hkind : scope.kind = .function)
    (hnames : ∀ y ∈ scope.names, y.2 = .local → scope.names.lookup y.1 = some .local)
    (hcl : ∀ x c, cl.lookup x = some c → X.env.cells.lookup x = some c)
    (hhas : ∀ x, ((relabel scope X.env).names.lookup x = some .cell ∨ (relabel scope X.env).names.lookup x = some .free) → ∃ c, cl.lookup x = some c)
    (hlen : js.length = fv.length) (hcap : ∀ (i : Nat) x j, fv[i]? = some x → js[i]? = some j → Cap X scope cl x j)
    (hg : ∀ (C : Addr) (ex : List Addr) (s : Shared) (H : Hp), PG (cxComp X (own ++ fv) scope cl C ex s H) tg g)
    (he : ∀ (C : Addr) (ex : List Addr) (s : Shared) (H : Hp), PE (cxComp X (own ++ fv) scope cl C ex s H) elt te)
    (hs : ∀ x, foldedSetIterable iter X.env x = pure x)
    {pins : List (Addr × Obj)} {s : Shared} {σ : St} {H : Hp} {Q : VK} {use : Option (Value → Sem Unit)} {QQ : Value → Shared → Prop} {fpos : Pos} (I : Inv X pins σ H s) (h : tComp wi own.length js g te σ H Q)
    (fin : ∀ (a C : Addr) (s5 : Shared) (H5 : Hp) (fl : Flow), Inv X pins σ H5 s5 → H5 C = none → C ≠ X.env.locals → X.s₀.heap.objs.size ≤ C → (∀ x c, X.env.cells.lookup x = some c → c ≠ C) → (∀ p ∈ X.pn ++ pins, p.1 ≠ C) → (∃ m, s5.heap.Ns C m) → Q (.ref a) H5 → compPost (model X.prog X.w) X.A X.xe use QQ (.ref a) C (.ok fl) s5) :
    wpAny (model X.prog X.w) X.A (comprehension (.ListComp elt [⟨tg, iter, [], 0⟩] scope pos) scope X.env fpos (newList []) false (firstIter [⟨tg, iter, [], 0⟩] X.env) use) QQ X.xe s := by
  refine wpAny_comprehension_free (use := use) rfl hs hclos hkind hnames (thn (hi pins s σ H _ I h) fun v s1 h1 => thn h1 fun itv s2 h2 => ?_)
  obtain ⟨it, fp, tn, J, H2, e, I2, T, st2, f2, W, ⟨m0, w0⟩, turn⟩ := h2
  subst e
  refine wpAny_newObj_type (wpAny_newFunctionEnv hcell (by intro y hy; simp at hy) (fun h₁ hns₁ hsb₁ => ?_) hkind)
  dsimp only at hns₁ hsb₁ ⊢
  generalize hHp : s2.heap.push { cls := .type "list", dict := none, data := .seq ([] : List Value).toArray } = hL at hns₁ hsb₁ ⊢
  have hC : hL.objs.size = s2.heap.objs.size + 1 := by rw [← hHp, Heap.size_push]
  have hDC : s2.heap.objs.size ≠ hL.objs.size := by rw [hC]; exact Nat.ne_of_lt (Nat.lt_succ_self _)
  have ltC : ∀ b, b < s2.heap.objs.size → b ≠ hL.objs.size := fun b hb => by rw [hC]; exact Nat.ne_of_lt (Nat.lt_succ_of_lt hb)
  have old : ∀ b o, s2.heap.get? b = some o → h₁.get? b = some o := fun b o e => hsb₁.extBut b o (ltC b (Heap.lt_size e)) (Heap.get?_push_of_some _ (hHp ▸ Heap.get?_push_of_some _ e))
  have hacc : h₁.get? s2.heap.objs.size = some { cls := .type "list", data := .seq ([] : List Value).toArray 0 } := hsb₁.extBut _ _ hDC (Heap.get?_push_of_some _ (hHp ▸ Heap.get?_push_size _ rfl))
  have hfresh : ∀ a, s2.heap.objs.size ≤ a → H2 a = none := fun a ha => I2.hok.fresh ha
  have fpL : ∀ b ∈ fp, b < s2.heap.objs.size := fun b hb => by
    obtain ⟨o, e, _⟩ := T.obj _ _ st2 b hb
    exact Heap.lt_size e
  have cellL : ∀ x c, cl.lookup x = some c → c < s2.heap.objs.size := fun x c e => by
    obtain ⟨v, q⟩ := I2.cell x c (hcl x c e)
    exact q.lt
  have pinL : ∀ p ∈ X.pn ++ pins, p.1 < s2.heap.objs.size := fun p hp => Heap.lt_size (I2.pin p hp).1
  generalize hX : cxComp X (own ++ fv) scope cl hL.objs.size fp s2 H2 = Y
  have ok : Y.Ok := by
    subst hX
    refine ⟨I2.ok.mod, hkind, I2.ok.glob, I2.ok.blt, by show s2.heap.objs.size ≤ hL.objs.size; omega, fun x y c h1 h2 => I2.ok.inj x y c (hcl x c h1) (hcl y c h2), fun x hx => hhas x hx,
      fun x c hf => absurd hf (by show ¬ (false = true); decide), I2.ok.hd, I2.ok.frames, .inl rfl, fun b hb => ⟨ltC b (fpL b hb), fun x c e => (f2 b hb).2.2.2.2.1 x c (hcl x c e)⟩, I2.bs, Nat.le_trans I2.ok.bsz I2.sz, fun b o e hb => ?_, fun b hb hz => ?_, I2.stack, I2.stkFree⟩
    · rcases (f2 b hb).2.2.2.1 with z | z
      · exact I2.ok.noex b o e z
      · exact absurd (Nat.lt_of_lt_of_le (Heap.lt_size e) (Nat.le_trans I2.ok.bsz z)) (Nat.lt_irrefl _)
    · rcases List.mem_cons.mp (I2.stkSub b hz) with z | z
      · exact (f2 b hb).2.1 z
      · exact (f2 b hb).2.2.1 z
  have hYl : Y.env.locals = hL.objs.size := by subst hX; rfl
  have hYs : Y.s₀ = s2 := by subst hX; rfl
  have hYH : Y.H₀ = H2 := by subst hX; rfl
  have hYx : Y.ex = fp := by subst hX; rfl
  have hYf : Y.fs = frs X.stack := by subst hX; rfl
  have hYc : Y.env.cells = cl := by subst hX; rfl
  have hYp : Y.pn = X.pn := by subst hX; rfl
  have pinOk : ∀ p ∈ X.pn ++ pins, s2.heap.get? p.1 = some p.2 ∧ H2 p.1 = none ∧ p.1 ≠ hL.objs.size ∧ p.1 ∉ frs X.stack ∧ ∀ v, p.2.data ≠ .cell v := fun p hp => by
    obtain ⟨e, n, ne, nf, d⟩ := I2.pin p hp
    refine ⟨e, n, ltC _ (Heap.lt_size e), fun z => ?_, d⟩
    rcases List.mem_cons.mp (I2.stkSub _ z) with q | q
    · exact ne q
    · exact nf q
  have stkL : ∀ b ∈ frs X.stack, b < s2.heap.objs.size := fun b hb => by
    obtain ⟨_, o, ho, _⟩ := I2.stack.mem hb
    exact Heap.lt_size ho
  have I3 : Inv Y (pins ++ [(s2.heap.objs.size, { cls := .type "list", data := .seq ([] : List Value).toArray 0 })]) (compSt own.length js σ) H2 { s2 with heap := h₁, toks := s2.toks + ([] : List (Str × Value)).length } := by
    refine ⟨ok, by subst hX; rfl, I2.bare, by rw [hYH, hYs]; exact Un.kept old, ⟨_, by rw [hYl]; exact hns₁, fun i x v e1 e2 e3 => ?_⟩, fun x c e => ?_, by rw [hYl]; exact hfresh _ (by omega), fun x c e => ?_, fun p hp => ?_, by subst hX; exact I2.hok.kept old, ?_⟩
    · subst hX
      have e1 : (own ++ fv)[i]? = some x := e1
      unfold compSt at e2
      by_cases hi : i < own.length
      · rw [List.getElem?_append_left (by simpa using hi), List.getElem?_replicate] at e2
        split at e2 <;> cases e2
      · rw [List.getElem?_append_right (by simpa using hi), List.length_replicate, List.getElem?_map] at e2
        rw [List.getElem?_append_right (by omega)] at e1
        cases ej : js[i - own.length]? with
        | none => rw [ej] at e2; cases e2
        | some j =>
          rw [ej] at e2
          have cp := hcap _ x j e1 ej
          have e2' : σ[j]? = some (some v) := join_some (Option.some.inj e2)
          obtain ⟨m, hn, hl⟩ := I2.loc
          obtain ⟨u, r, l⟩ := hl j x v cp.at_ e2' (cp.out.elim (fun z => .inr (.inl z)) fun z => .inr (.inr z))
          refine ⟨u, r, .inr ⟨cp.inn, ?_⟩⟩
          obtain ⟨c, ec⟩ := hhas x cp.inn
          rcases l with ⟨k, _⟩ | ⟨_, c', ec', z⟩
          · have k : X.env.scope.names.lookup x = some .local := k
            rcases cp.out with q | q <;> rw [q] at k <;> cases k
          · rw [hcl x c ec] at ec'
            cases ec'
            obtain ⟨o, ho, hd⟩ := z
            exact ⟨c, ec, o, old _ _ ho, hd⟩
    · rw [hYc] at e
      obtain ⟨v, o, ho, hd⟩ := I2.cell x c (hcl x c e)
      exact ⟨v, o, old _ _ ho, hd⟩
    · rw [hYc] at e
      exact I2.freeC x c (hcl x c e)
    · rw [hYp] at hp
      rw [hYl, hYf]
      rcases List.mem_append.mp hp with z | z
      · obtain ⟨a, b, c, d, f⟩ := pinOk p (List.mem_append_left _ z)
        exact ⟨old _ _ a, b, c, d, f⟩
      · rcases List.mem_append.mp z with z | z
        · obtain ⟨a, b, c, d, f⟩ := pinOk p (List.mem_append_right _ z)
          exact ⟨old _ _ a, b, c, d, f⟩
        · have e : p = _ := List.mem_singleton.mp z
          subst e
          exact ⟨hacc, hfresh _ (Nat.le_refl _), hDC, fun z => absurd (stkL _ z) (Nat.lt_irrefl _), fun v z => by cases z⟩
    · subst hX
      unfold compSt
      show _ = (own ++ fv).length
      simp [hlen]
  have hYprog : Y.prog = X.prog := by subst hX; rfl
  have hYw : Y.w = X.w := by subst hX; rfl
  have hYK : Y.K = X.K := by subst hX; rfl
  have hYA : Y.A = X.A := by subst hX; rfl
  have hYcalm : Y.calm = true := by subst hX; exact hc
  have hYxe : Y.xe = fun _ _ => False := by subst hX; rfl
  have hYenv : Y.env = compEnvC scope cl hL.objs.size X.env := by subst hX; rfl
  have hg' := hg hL.objs.size fp s2 H2
  have he' := he hL.objs.size fp s2 H2
  rw [hX] at hg' he'
  have fpOk : ∀ {H' : Hp} {pn : List (Addr × Obj)}, (∀ b ∈ fp, H' b = none) → (∀ p ∈ pn, p.1 = s2.heap.objs.size ∨ p ∈ pins) → ∀ b ∈ fp, FpOk Y pn H' b := fun hn hp b hb => by
    refine ⟨hn b hb, by rw [hYl]; exact ltC b (fpL b hb), ?_, .inl (by rw [hYx]; exact hb), fun x c e => ?_, fun p hq => ?_⟩
    · rw [hYf]
      intro hz
      rcases List.mem_cons.mp (I2.stkSub b hz) with z | z
      · exact (f2 b hb).2.1 z
      · exact (f2 b hb).2.2.1 z
    · rw [hYc] at e
      exact (f2 b hb).2.2.2.2.1 x c (hcl x c e)
    · rw [hYp] at hq
      rcases List.mem_append.mp hq with z | z
      · exact (f2 b hb).2.2.2.2.2 p (List.mem_append_left _ z)
      · rcases hp p z with q | q
        · rw [q]; exact Ne.symm (Nat.ne_of_lt (fpL b hb))
        · exact (f2 b hb).2.2.2.2.2 p (List.mem_append_right _ q)
  have loop : ∀ s₃ : Shared, s₃ = { s2 with heap := h₁, toks := s2.toks + ([] : List (Str × Value)).length } →
      codeAny (model X.prog X.w) X.A (.compLoop (.ListComp elt [⟨tg, iter, [], 0⟩] scope pos) 0 (.ref it) (.ref s2.heap.objs.size) (compEnvC scope cl hL.objs.size X.env))
        (compPost (model X.prog X.w) X.A X.xe use QQ (.ref s2.heap.objs.size) hL.objs.size) s₃ := by
    rintro s₃ rfl
    refine compLoop_any (fun n s' => ∃ i ys its k σ' H', Inv Y (pins ++ [(s2.heap.objs.size, { cls := .type "list", data := .seq (its : List Value).toArray k })]) σ' H' s' ∧ tn i s'.heap ∧ (∀ b ∈ fp, H' b = none) ∧ Vals ys its ∧ ys.length ≤ sizeLine ∧ W i n ys σ' H') ?_ m0
      ⟨0, [], [], 0, _, H2, I3, T.keep _ _ _ st2 fun b _ o e => old b o e, fun b hb => (f2 b hb).1, .nil, Nat.zero_le _, w0⟩
    rintro n s4 ⟨i, ys, its, k, σ4, H4, I4, st4, fr4, rv, hz, w4⟩
    have pinD : ∀ p ∈ (pins ++ [(s2.heap.objs.size, ({ cls := .type "list", data := .seq (its : List Value).toArray k } : Obj))]), p.1 = s2.heap.objs.size ∨ p ∈ pins := fun p hp => by
      rcases List.mem_append.mp hp with z | z
      · exact .inr z
      · rw [List.mem_singleton.mp z]; exact .inl rfl
    have F4 := fpOk (pn := pins ++ [(s2.heap.objs.size, { cls := .type "list", data := .seq (its : List Value).toArray k })]) fr4 pinD
    rcases turn i n ys σ4 H4 w4 with ⟨stop, qn⟩ | ⟨go, hlt, N, hN, step⟩
    · have d := T.done Y hYprog hYw hYK hYcalm i _ s4 σ4 H4 (fun _ _ => False) I4 F4 st4 stop
      rw [hYA] at d
      refine thn d fun r s5 ⟨hr, I5⟩ => ?_
      subst hr
      obtain ⟨m, hn, _⟩ := id I5.loc
      rw [hYl] at hn
      have hD := I5.pin (s2.heap.objs.size, { cls := .type "list", data := .seq (its : List Value).toArray k }) (List.mem_append_right _ (List.mem_append_right _ (List.mem_singleton.mpr rfl)))
      have hDn : H4 s2.heap.objs.size = none := hD.2.1
      have kp : ∀ b o, b ≠ hL.objs.size → s5.heap.get? b = some o → s5.heap.get? b = some o := fun b o _ e => e
      have B := I5.base
      rw [hYH, hYs, hYx, hYf] at B
      have s2C : ∀ b o, s2.heap.get? b = some o → b ≠ hL.objs.size := fun b o e => ltC b (Heap.lt_size e)
      have trk : ∀ b u, H4 b = some u → b ≠ s2.heap.objs.size := fun b u e z => by rw [z, hDn] at e; cases e
      have trC : ∀ b u, H4 b = some u → b ≠ hL.objs.size := fun b u e z => by
        have := I5.free
        rw [hYl, ← z, e] at this; cases this
      have hH2 : ∀ b u, H2 b = some u → b ≠ s2.heap.objs.size := fun b u e z => by rw [z, hfresh _ (Nat.le_refl _)] at e; cases e
      have IX : Inv X pins σ (upd H4 s2.heap.objs.size (.lst ys)) s5 := by
       refine I2.call' (ch := fp) (by show s5.os = s2.os; rw [I5.os, hYs]) ⟨fun b o e n hb hx => kp b o (s2C b o e) (B.keep b o e n hb hx), fun b o e n hb hx => ?_, fun b o e n hx => ?_, fun b o e hx => ?_, fun b xs e => ?_, fun b o u e => ?_, fun b ps e => ?_⟩ ?_ I5.bare (fun b hb => ⟨(f2 b hb).2.2.2.1, (f2 b hb).2.1, (f2 b hb).2.2.2.2.1, (f2 b hb).2.2.2.2.2⟩)
       · obtain ⟨sl, q⟩ := B.slot b o e n hb hx
         exact ⟨sl, kp b _ (s2C b o e) q⟩
       · rw [upd_ne (Nat.ne_of_lt (Heap.lt_size e))]
         exact B.free b o e n hx
       · obtain ⟨o', q⟩ := B.there b o e hx
         exact ⟨o', kp b o' (s2C b o e) q⟩
       · rw [upd_ne (hH2 b _ e)]
         exact B.tups b xs e
       · rw [upd_ne (hH2 b _ e)]
         exact B.frzs b o u e
       · obtain ⟨more, q⟩ := B.tbls b ps e
         exact ⟨more, by rw [upd_ne (hH2 b _ e)]; exact q⟩
       · intro b u e
         by_cases hb : b = s2.heap.objs.size
         · subst hb
           rw [upd_same] at e
           cases e
           exact ⟨hz, its, k, rv, kp _ _ hDC hD.1⟩
         · rw [upd_ne hb] at e
           have okb := I5.hok b u e
           rw [hYprog, hYw] at okb
           refine okb.stay (fun c v hc q => kp c v ?_ q) (fun c q => by rw [upd_ne (trk c _ q)]; exact q) fun c xs q => by rw [upd_ne (trk c _ q)]; exact q
           rcases hc with z | z
           · rw [z]; exact trC b u e
           · exact trC c _ z
      have zC : upd H4 s2.heap.objs.size (.lst ys) hL.objs.size = none := by
        rw [upd_ne (Ne.symm hDC)]
        have := I5.free
        rwa [hYl] at this
      exact fin s2.heap.objs.size hL.objs.size s5 _ _ IX zC (Ne.symm (ltC _ I2.lt)) (by have := I2.sz; omega) (fun x c e => ltC c (by obtain ⟨v, q⟩ := I2.cell x c e; exact q.lt)) (fun p hp => ltC _ (pinL p hp)) ⟨m, hn⟩ (qn _ hDn)
    · have d := T.item Y hYprog hYw hYK hYcalm i _ s4 σ4 H4 (fun _ _ => False) I4 F4 st4 go
      rw [hYA] at d
      refine thn d fun r s5 ⟨u, hr, h5⟩ => ?_
      subst hr
      refine thn h5 fun _ s6 ⟨x, H6, I6, r6, y6, st6, fr6⟩ => ?_
      have I6' := I6.pinned (fpOk (pn := pins ++ [(s2.heap.objs.size, { cls := .type "list", data := .seq (its : List Value).toArray k })]) fr6 pinD) (T.obj _ _ st6)
      have d7 := hg' _ s6 σ4 H6 x u _ I6' r6 (step x H6 y6)
      rw [hYprog, hYw, hYA, hYxe, hYenv] at d7
      refine thn d7 fun _ s7 ⟨σ7, H7, I7, q7⟩ => ?_
      have d8 := he' _ s7 σ7 H7 _ I7 q7
      rw [hYprog, hYw, hYA, hYxe, hYenv] at d8
      refine thn d8 fun u8 s8 ⟨v8, H8, I8, r8, n8⟩ => ?_
      obtain ⟨m', hm, w8⟩ := hN _ _ _ n8
      have pD := I8.pin (s2.heap.objs.size, { cls := .type "list", data := .seq (its : List Value).toArray k }) (List.mem_append_right _ (List.mem_append_left _ (List.mem_append_right _ (List.mem_singleton.mpr rfl))))
      have tn8 : tn (i + 1) s8.heap := T.keep _ _ _ st6 fun b hb o e => (I8.pin (b, o) (List.mem_append_right _ (List.mem_append_right _ (mem_pinsAt hb e)))).1
      have fr8 : ∀ b ∈ fp, H8 b = none := fun b hb => by
        obtain ⟨o, e, d⟩ := T.obj _ _ st6 b hb
        exact (I8.pin (b, o) (List.mem_append_right _ (List.mem_append_right _ (mem_pinsAt hb e)))).2.1
      have J8 : Inv Y pins σ7 H8 s8 := I8.unpinned.unpinned
      have eD : s8.heap.get? s2.heap.objs.size = some { cls := .type "list", data := .seq its.toArray k } := pD.1
      refine call_meets F.slot_list_append ⟨_, eD, rfl⟩ F.entry_list_append (F.args_list_append_2 _ _) (PySem.list_append _ its.toArray k u8 (by rw [List.size_toArray, ← rv.length]; omega)) ⟨eD, ?_⟩
      have other : ∀ b o, b ≠ s2.heap.objs.size → s8.heap.get? b = some o → (s8.heap.update s2.heap.objs.size (Obj.mapSeq fun xs => xs.push u8)).get? b = some o := fun b o nb e => (Heap.get?_update_other s8.heap _ (Ne.symm nb)).trans e
      have J9 := J8.turned (t' := s8.toks) (it := s2.heap.objs.size) (h' := s8.heap.update s2.heap.objs.size (Obj.mapSeq fun xs => xs.push u8)) other pD.2.1 (by rw [hYl]; exact hDC) (.inr (by rw [hYs]; exact Nat.le_refl _))
        (fun x c e => by rw [hYc] at e; exact Nat.ne_of_lt (cellL x c e)) (fun p hp => by rw [hYp] at hp; exact Nat.ne_of_lt (pinL p hp))
      have ep : (its.toArray.push u8) = (its ++ [u8]).toArray := by simp
      obtain ⟨kk, upD⟩ : ∃ kk, (s8.heap.update s2.heap.objs.size (Obj.mapSeq fun xs => xs.push u8)).get? s2.heap.objs.size = some { cls := .type "list", data := .seq (its ++ [u8]).toArray kk } := by
        have z := PySem.IsL.update eD (fun xs => xs.push u8)
        rw [ep] at z
        exact ⟨_, z⟩
      refine ⟨m', hm, i + 1, ys ++ [v8], its ++ [u8], kk, σ7, H8, J9.pins_of fun p hp => ?_, T.keep _ _ _ tn8 fun b hb o e => other b o (Nat.ne_of_lt (fpL b hb)) e, fr8, rv.append (.cons r8 .nil), ?_, w8⟩
      · rcases List.mem_append.mp hp with z | z
        · exact J9.pin p (List.mem_append_right _ z)
        · rw [List.mem_singleton.mp z]
          exact ⟨upD, pD.2.1, by rw [hYl]; exact hDC, by rw [hYf]; exact fun z => absurd (stkL _ z) (Nat.lt_irrefl _), fun v z => by cases z⟩
      · rw [List.length_append, List.length_singleton]; omega
  exact codeAny_compStart_list (loop _ rfl) (T.self _ 0 _ _ _ (T.keep _ _ _ st2 fun b _ o e => old b o e) (loop _ rfl))
theorem pe_comp {X : Cx} {elt tg iter : Expr} {scope : Scope} {cl : List (Str × Addr)} {pos : Pos} {own fv : List Str} {js : List Nat} {wi : TI} {g : TG} {te : TE}
    (hc : X.calm = true) (hi : PI X tg iter wi) (hclos : closureFor scope X.env = pure cl) (hcell : ∀ y ∈ scope.names, y.2 ≠ .cell) (hkind : scope.kind = .function)
    (hnames : ∀ y ∈ scope.names, y.2 = .local → scope.names.lookup y.1 = some .local)
    (hcl : ∀ x c, cl.lookup x = some c → X.env.cells.lookup x = some c)
    (hhas : ∀ x, ((relabel scope X.env).names.lookup x = some .cell ∨ (relabel scope X.env).names.lookup x = some .free) → ∃ c, cl.lookup x = some c)
    (hlen : js.length = fv.length) (hcap : ∀ (i : Nat) x j, fv[i]? = some x → js[i]? = some j → Cap X scope cl x j)
    (hg : ∀ (C : Addr) (ex : List Addr) (s : Shared) (H : Hp), PG (cxComp X (own ++ fv) scope cl C ex s H) tg g)
    (he : ∀ (C : Addr) (ex : List Addr) (s : Shared) (H : Hp), PE (cxComp X (own ++ fv) scope cl C ex s H) elt te)
    (hs : ∀ x, foldedSetIterable iter X.env x = pure x := by intro _; rfl) :
    PE X (.ListComp elt [⟨tg, iter, [], 0⟩] scope pos) (tComp wi own.length js g te) := by
  intro pins s σ H Q I h
  rw [eval_ListComp]
  refine comp_core (use := none) (QQ := EP X pins σ Q) hc hi hclos hcell hkind hnames hcl hhas hlen hcap hg he hs I h fun a C s5 H5 fl I5 zC zL zS zc zp ⟨m, hn⟩ q => ⟨m, hn, fun h' sc => ?_⟩
  exact ⟨.ref a, H5, I5.turned (t' := s5.toks) (it := C) (fun d o nd e => sc.extBut d o nd e) zC zL (.inr zS) zc zp, rfl, q⟩
theorem comp_list {K : PySem.W.Frag} {a : Addr} {xs : List V} {g : TG} {te : TE} {Q : VK} {σ : St} {H : Hp} (Pv : Nat → List V → St → Hp → Prop) (h0 : Pv 0 [] σ H) (hl : ∀ i ys σ H, i ≤ xs.length → Pv i ys σ H → SqL K H a xs)
    (hs : ∀ i x ys σ H, xs[i]? = some x → Pv i ys σ H → ys.length < sizeLine ∧ g x σ H fun σ3 H3 => te σ3 H3 fun v H4 => Pv (i + 1) (ys ++ [v]) σ3 H4) (hd : ∀ ys σ H, Pv xs.length ys σ H → ∀ p, H p = none → Q (.ref p) (upd H p (.lst ys))) :
    ∃ W : Nat → Nat → List V → St → Hp → Prop, (∃ m, W 0 m [] σ H) ∧ ∀ i m ys σ' H', W i m ys σ' H' →
      ((Itl K a).stop i H' ∧ ∀ p, H' p = none → Q (.ref p) (upd H' p (.lst ys))) ∨
      ((Itl K a).go i H' ∧ ys.length < sizeLine ∧ ∃ N : List V → St → Hp → Prop, (∀ zs σ2 H2, N zs σ2 H2 → ∃ m', m' < m ∧ W (i + 1) m' zs σ2 H2) ∧
        ∀ x H2, (Itl K a).yld i H' x H2 → g x σ' H2 fun σ3 H3 => te σ3 H3 fun v H4 => N (ys ++ [v]) σ3 H4) := by
  refine ⟨fun i m ys σ H => m = xs.length - i ∧ i ≤ xs.length ∧ Pv i ys σ H, ⟨xs.length, by simp, Nat.zero_le _, h0⟩, ?_⟩
  rintro i m ys σ H ⟨rfl, hi, p⟩
  have q := hl i ys σ H hi p
  by_cases hlt : i < xs.length
  · have e : xs[i]? = some xs[i] := by simp [hlt]
    refine .inr ⟨⟨xs, xs[i], q, e⟩, (hs i _ ys σ H e p).1, Pv (i + 1), fun zs σ' H' p' => ⟨xs.length - (i + 1), by omega, rfl, hlt, p'⟩, fun x H' y => ?_⟩
    obtain ⟨e, y⟩ := y
    subst e
    exact (hs i x ys σ _ (y xs q) p).2
  · have e : i = xs.length := by omega
    subst e
    exact .inl ⟨⟨xs, q, Nat.le_refl _⟩, hd ys σ H p⟩
theorem comp_tup {K : PySem.W.Frag} {a : Addr} {xs : List V} {g : TG} {te : TE} {Q : VK} {σ : St} {H : Hp} (Pv : Nat → List V → St → Hp → Prop) (h0 : Pv 0 [] σ H) (hl : ∀ i ys σ H, i ≤ xs.length → Pv i ys σ H → SqT K H a xs)
    (hs : ∀ i x ys σ H, xs[i]? = some x → Pv i ys σ H → ys.length < sizeLine ∧ g x σ H fun σ3 H3 => te σ3 H3 fun v H4 => Pv (i + 1) (ys ++ [v]) σ3 H4) (hd : ∀ ys σ H, Pv xs.length ys σ H → ∀ p, H p = none → Q (.ref p) (upd H p (.lst ys))) :
    ∃ W : Nat → Nat → List V → St → Hp → Prop, (∃ m, W 0 m [] σ H) ∧ ∀ i m ys σ' H', W i m ys σ' H' →
      ((Itt K a).stop i H' ∧ ∀ p, H' p = none → Q (.ref p) (upd H' p (.lst ys))) ∨
      ((Itt K a).go i H' ∧ ys.length < sizeLine ∧ ∃ N : List V → St → Hp → Prop, (∀ zs σ2 H2, N zs σ2 H2 → ∃ m', m' < m ∧ W (i + 1) m' zs σ2 H2) ∧
        ∀ x H2, (Itt K a).yld i H' x H2 → g x σ' H2 fun σ3 H3 => te σ3 H3 fun v H4 => N (ys ++ [v]) σ3 H4) := by
  refine ⟨fun i m ys σ H => m = xs.length - i ∧ i ≤ xs.length ∧ Pv i ys σ H, ⟨xs.length, by simp, Nat.zero_le _, h0⟩, ?_⟩
  rintro i m ys σ H ⟨rfl, hi, p⟩
  have q := hl i ys σ H hi p
  by_cases hlt : i < xs.length
  · have e : xs[i]? = some xs[i] := by simp [hlt]
    refine .inr ⟨⟨xs, xs[i], q, e⟩, (hs i _ ys σ H e p).1, Pv (i + 1), fun zs σ' H' p' => ⟨xs.length - (i + 1), by omega, rfl, hlt, p'⟩, fun x H' y => ?_⟩
    obtain ⟨e, y⟩ := y
    subst e
    exact (hs i x ys σ _ (y xs q) p).2
  · have e : i = xs.length := by omega
    subst e
    exact .inl ⟨⟨xs, q, Nat.le_refl _⟩, hd ys σ H p⟩
theorem comp_range {lo : Int} {n : Nat} {g : TG} {te : TE} {Q : VK} {σ : St} {H : Hp} (Pv : Nat → List V → St → Hp → Prop) (h0 : Pv 0 [] σ H)
    (hs : ∀ i ys σ H, i < n → Pv i ys σ H → ys.length < sizeLine ∧ g (.int (lo + i)) σ H fun σ3 H3 => te σ3 H3 fun v H4 => Pv (i + 1) (ys ++ [v]) σ3 H4) (hd : ∀ ys σ H, Pv n ys σ H → ∀ p, H p = none → Q (.ref p) (upd H p (.lst ys))) :
    ∃ W : Nat → Nat → List V → St → Hp → Prop, (∃ m, W 0 m [] σ H) ∧ ∀ i m ys σ' H', W i m ys σ' H' →
      ((Itr lo n).stop i H' ∧ ∀ p, H' p = none → Q (.ref p) (upd H' p (.lst ys))) ∨
      ((Itr lo n).go i H' ∧ ys.length < sizeLine ∧ ∃ N : List V → St → Hp → Prop, (∀ zs σ2 H2, N zs σ2 H2 → ∃ m', m' < m ∧ W (i + 1) m' zs σ2 H2) ∧
        ∀ x H2, (Itr lo n).yld i H' x H2 → g x σ' H2 fun σ3 H3 => te σ3 H3 fun v H4 => N (ys ++ [v]) σ3 H4) := by
  refine ⟨fun i m ys σ H => m = n - i ∧ i ≤ n ∧ Pv i ys σ H, ⟨n, by simp, Nat.zero_le _, h0⟩, ?_⟩
  rintro i m ys σ H ⟨rfl, hi, p⟩
  by_cases hlt : i < n
  · refine .inr ⟨hlt, (hs i ys σ H hlt p).1, Pv (i + 1), fun zs σ' H' p' => ⟨n - (i + 1), by omega, rfl, hlt, p'⟩, fun x H' y => ?_⟩
    obtain ⟨e, y⟩ := y
    subst e y
    exact (hs i ys σ _ hlt p).2
  · have e : i = n := by omega
    subst e
    exact .inl ⟨Nat.le_refl _, hd ys σ H p⟩
end L2
namespace L2
open PySem PySem.Spec PyProof.Rows
theorem own_cls {K : PySem.W.Frag} {h : Heap} {gm : Str → Option Value} {nmX : Str} {Cx' : Addr} {bmX : List Value} {nid : String} (KI : K.In h) (GN : h.Ns mainGlobals gm)
    (hn : PySem.W.nsIn K mainGlobals nmX = some (some (.ref Cx'))) (hq : PySem.W.excIn K Cx' bmX nid = true) : OwnCls nmX Cx' bmX nid gm h := by
  constructor
  · exact PySem.W.mg_of KI GN hn
  · unfold PySem.W.excIn at hq
    split at hq
    · rename_i ddx cdx slx hlk
      split at hq
      · rename_i C2 bm2 f0 f1 f2 f3 nn f5 hmro hsl0
        simp only [Bool.and_eq_true, beq_iff_eq, Bool.not_eq_true'] at hq
        obtain ⟨⟨⟨⟨⟨eC, eN⟩, hdl⟩, htl⟩, hnsok⟩, hinit⟩ := hq
        subst eC eN
        obtain ⟨c1, c2, c3, c4, c5, c6, c7, c8, c9, c10, c11⟩ := cdx
        dsimp only at hmro hdl hnsok hinit
        subst hmro hdl
        have hsl1 : slx = #[f0, f1, f2, f3, some (.builtin nn), f5] := by
          obtain ⟨lst⟩ := slx
          simp only at hsl0
          rw [hsl0]
        subst hsl1
        refine ⟨bm2, c4, c1, c5, c2, c6, c7, c8, c9, c10, ddx, f0, f1, f2, f3, f5, h.nsMap c4, KI _ _ hlk, ?_, ?_, ?_⟩
        · exact .of_isNs (PySem.W.isNs_of_in KI hnsok)
        · exact PySem.W.nsMap_none_of_in KI hnsok hinit
        · exact PySem.W.tail_of_in KI htl
      · cases hq
    · cases hq
def CX1 (P : Program) (w : World) : CXT := fun outer H s E e s' =>
  ∃ (a C : Addr) (a0 : Value) (H' : Hp) (B : Heap), e = .ref a ∧ s'.os = s.os ∧ AllBare s'.gens ∧ Heap.FlyingW B outer a (.ref C) a0 s'.heap ∧
    (∀ b o, s.heap.get? b = some o → H b = none → b ∉ frs outer → B.get? b = some o) ∧ (∀ b o, s.heap.get? b = some o → b ∉ frs outer → ∃ o', B.get? b = some o') ∧
    Un (frs outer) [] H H' s.heap s'.heap ∧ HOk P w H' B ∧ E (.ref C) none H'
section
variable {P : Program} {w : World} {K : PySem.W.Frag} {mg : Str → Option Value} {base : Heap} {N : List Str} {qual : Str} {scope : Scope} {f : Addr} {cd : Value} {A : Around} {outer : List Env} {s : Shared} {H : Hp} {E : XK}
theorem hok_hide {H : Hp} {h : Heap} {l : List Addr} (ok : HOk P w H h) (hl : ∀ b ∈ l, H b = none) : HOk P w H (PySem.W.hideAll h l) := fun b u e => by
  have nb : ∀ c v, H c = some v → c ∉ l := fun c v q z => by rw [hl c z] at q; cases q
  refine (ok b u e).stay (fun c v hc q => PySem.W.hideAll_get _ q ?_) (fun _ q => q) fun _ _ q => q
  rcases hc with z | z
  · rw [z]; exact nb b u e
  · exact nb c _ z
theorem frs_in {l : List Env} : ∀ env ∈ l, ∀ b, env.frame = some b → b ∈ frs l := fun env he b hb => List.mem_filterMap.mpr ⟨env, he, hb⟩
theorem passes1 : Passes (CX1 P w) (cxOf (CX1 P w) P w K mg base N qual scope f cd A outer s H E) E := by
  intro pins σ H1 s1 e s' I hx
  obtain ⟨a, C, a0, H', B, rfl, os, bare, fl, inB, thB, un, okB, hE⟩ := hx
  have hfr : (cxOf (CX1 P w) P w K mg base N qual scope f cd A outer s H E).A.frames = some (envOfC qual scope s.heap.objs.size f cd :: outer) := I.ok.frames
  refine wpAny_leaves_onW hfr rfl fl fun h'' fl'' up'' => ?_
  have Bs : ∀ b o, B.get? b = some o → h''.get? b = some o := fl''.1
  have ub : Un (frs outer) [] H H1 s.heap s1.heap := I.base
  have stk : ∀ b, b ∉ frs outer → b < s.heap.objs.size → b ∉ frs (envOfC qual scope s.heap.objs.size f cd :: outer) := fun b hb hlt z => by
    rcases List.mem_cons.mp (I.stkSub b z) with q | q
    · have q : b = s.heap.objs.size := q
      exact Nat.lt_irrefl _ (q ▸ hlt)
    · exact hb q
  have inB' : ∀ b o, s.heap.get? b = some o → H b = none → b ∉ frs outer → B.get? b = some o := fun b o e n hb =>
    inB b o (ub.keep b o e n hb (by simp)) (ub.free b o e n (by simp)) (stk b hb (Heap.lt_size e))
  have thB' : ∀ b o, s.heap.get? b = some o → b ∉ frs outer → ∃ o', B.get? b = some o' := fun b o e hb => by
    obtain ⟨o1, e1⟩ := ub.there b o e (by simp)
    exact thB b o1 e1 (stk b hb (Heap.lt_size e))
  have sub : ∀ b, b ∈ frs outer → b ∈ frs (envOfC qual scope s.heap.objs.size f cd :: outer) := fun b hb => List.mem_cons_of_mem _ hb
  have slot : ∀ b o, s.heap.get? b = some o → H b = none → b ∈ frs outer → ∃ sl, h''.get? b = some { o with slots := sl } := fun b o e n hb => by
    obtain ⟨sl1, e1⟩ := ub.slot b o e n hb (by simp)
    obtain ⟨sl2, e2⟩ := un.slot b _ e1 (ub.free b o e n (by simp)) (sub b hb) (by simp)
    obtain ⟨_, o3, e3, nf⟩ := I.ok.funs.mem hb
    have e3 : s.heap.get? b = some o3 := e3
    rw [e] at e3; cases e3
    obtain ⟨sl3, e4⟩ := up'' b _ e2 nf
    exact ⟨sl3, e4⟩
  have frf : ∀ b ∈ frs outer, H b = none := I.ok.frf
  refine ⟨a, C, a0, H', B, rfl, os.trans I.os, bare, fl'', inB', thB', ⟨fun b o e n hb _ => Bs _ _ (inB' b o e n hb), fun b o e n hb _ => slot b o e n hb, fun b o e n _ => ?_, fun b o e _ => ?_,
    fun b xs e => un.tups b xs (ub.tups b xs e), fun b o u e => un.frzs b o u (ub.frzs b o u e), fun b ps e => ?_⟩, okB, hE⟩
  · obtain ⟨o1, e1⟩ := ub.there b o e (by simp)
    exact un.free b o1 e1 (ub.free b o e n (by simp)) (by simp)
  · by_cases hb : b ∈ frs outer
    · obtain ⟨sl, q⟩ := slot b o e (frf b hb) hb
      exact ⟨_, q⟩
    · obtain ⟨o', q⟩ := thB' b o e hb
      exact ⟨o', Bs _ _ q⟩
  · obtain ⟨m1, q1⟩ := ub.tbls b ps e
    obtain ⟨m2, q2⟩ := un.tbls b _ q1
    exact ⟨m1 ++ m2, by rw [q2, Array.append_assoc]⟩
def RaisesTo (X : Cx) (Ex : Value → Hp → Prop) : Prop := ∀ (pins : List (Addr × Obj)) (σ : St) (H : Hp) (s : Shared) (h' : Heap) (e C : Addr) (vs : List Value), Inv X pins σ H s → Heap.MadeExcOf s.heap h' e (.ref C) vs → Ex (.ref C) H → X.xe (.ref e) { s with heap := h' }
theorem raises1 : RaisesTo (cxOf (CX1 P w) P w K mg base N qual scope f cd A outer s H E) (fun c H' => E c none H') := by
  intro pins σ H1 s1 h' e C vs I hm hE
  have hfr : (cxOf (CX1 P w) P w K mg base N qual scope f cd A outer s H E).A.frames = some (envOfC qual scope s.heap.objs.size f cd :: outer) := I.ok.frames
  have st : s1.heap.FunFrames base (envOfC qual scope s.heap.objs.size f cd :: outer) := I.stack
  refine wpAny_leaves_madeW (base := PySem.W.hideAll s1.heap (frs (envOfC qual scope s.heap.objs.size f cd :: outer))) hfr rfl (fun b o q => PySem.W.of_hideAll _ q) (PySem.W.funFrames_hide st frs_in) hm fun h'' t fl'' tp nt up'' => ?_
  have ub : Un (frs outer) [] H H1 s.heap s1.heap := I.base
  have Bs := fl''.1
  have stk : ∀ b, b ∉ frs outer → b < s.heap.objs.size → b ∉ frs (envOfC qual scope s.heap.objs.size f cd :: outer) := fun b hb hlt z => by
    rcases List.mem_cons.mp (I.stkSub b z) with q | q
    · have q : b = s.heap.objs.size := q
      exact Nat.lt_irrefl _ (q ▸ hlt)
    · exact hb q
  have inB' : ∀ b o, s.heap.get? b = some o → H b = none → b ∉ frs outer → (PySem.W.hideAll s1.heap (frs (envOfC qual scope s.heap.objs.size f cd :: outer))).get? b = some o := fun b o e n hb =>
    PySem.W.hideAll_get _ (ub.keep b o e n hb (by simp)) (stk b hb (Heap.lt_size e))
  have thB' : ∀ b o, s.heap.get? b = some o → b ∉ frs outer → ∃ o', (PySem.W.hideAll s1.heap (frs (envOfC qual scope s.heap.objs.size f cd :: outer))).get? b = some o' := fun b o e hb => by
    obtain ⟨o1, e1⟩ := ub.there b o e (by simp)
    exact ⟨o1, PySem.W.hideAll_get _ e1 (stk b hb (Heap.lt_size e))⟩
  have slot : ∀ b o, s.heap.get? b = some o → H b = none → b ∈ frs outer → ∃ sl, h''.get? b = some { o with slots := sl } := fun b o e n hb => by
    obtain ⟨sl1, e1⟩ := ub.slot b o e n hb (by simp)
    obtain ⟨_, o3, e3, nf⟩ := I.ok.funs.mem hb
    have e3 : s.heap.get? b = some o3 := e3
    rw [e] at e3; cases e3
    obtain ⟨sl3, e4⟩ := up'' b _ (hm.keeps _ _ e1) nf
    exact ⟨sl3, e4⟩
  have frf : ∀ b ∈ frs outer, H b = none := I.ok.frf
  refine ⟨e, C, .ref t, H1, _, rfl, I.os, I.bare, fl'', inB', thB', ⟨fun b o e n hb _ => Bs _ _ (inB' b o e n hb), fun b o e n hb _ => slot b o e n hb, fun b o e n _ => ub.free b o e n (by simp), fun b o e _ => ?_,
    ub.tups, ub.frzs, ub.tbls⟩, hok_hide I.hok I.stkFree, hE⟩
  by_cases hb : b ∈ frs outer
  · obtain ⟨sl, q⟩ := slot b o e (frf b hb) hb
    exact ⟨_, q⟩
  · obtain ⟨o', q⟩ := thB' b o e hb
    exact ⟨o', Bs _ _ q⟩
end
def tRaise (C : Addr) (Ex : Value → Hp → Prop) (t : TA) : TS := fun _ σ H => t σ H fun vs H1 => vs.length ≤ sizeLine ∧ Ex (.ref C) H1
theorem ps_raise {X : Cx} {x : Str} {C : Addr} {B newId initId : String} {bm : List Value} {np cpos pos : Pos} {e₀ : Expr} {es : List Expr} {t : TA} {Ex : Value → Hp → Prop}
    (FB : ExcBaseFacts B newId initId bm) (hc : X.calm = true) (hg : Gl X x) (hn : PySem.W.nsIn X.K mainGlobals x = some (some (.ref C))) (hq : PySem.W.excIn X.K C bm newId = true) (hx : RaisesTo X Ex) (ha : PA X (e₀ :: es) t)
    (hs : starEach (e₀ :: es) X.env = (false, eval e₀ X.env) :: starEach es X.env := by rfl) (hpl : (backTo cpos (starEach es X.env)).any (·.1) = false := by rfl) (hd : (x == ("__debug__" : Str)) = false := by decide) :
    PS X (.Raise (some (.Call (.Name x np) (e₀ :: es) [] cpos)) none pos) (tRaise C Ex t) := by
  intro pins s σ H D I h
  have O := own_cls I.ok.mod.kin I.ok.mod.glob hn hq
  obtain ⟨tl, Nn, n1, q1, b1, d1, m1, u1, a1, l1, dd1, j0, j1, j2, j3, j5, mN, hC, hN, hni, T⟩ := O.obj
  refine wpAny_Raise_call_subT (C := C) (nm := n1) (q := q1) (N := Nn) (bs := b1) (bm := tl) (hdct := d1) (sn := m1) (sub := u1) (ab := a1) (col := l1) (dd := dd1) (k0 := j0) (k1 := j1) (k2 := j2) (k3 := j3) (k5 := j5) (mN := mN)
    FB (T.hasType FB.hasBase) (I.ok.hd hc) (by rw [hs]; show (false || (backTo cpos (starEach es X.env)).any (·.1)) = false; rw [hpl]; rfl) hni (ld_glob I hg O.bound ⟨rfl, ?_⟩ hd)
  have hA := ha cpos pins s σ H _ I h
  rw [hs] at hA ⊢
  refine Calls.evalArgs_plain (thn hA fun us s2 ⟨vs, H2, I2, r2, hz, hE⟩ => ⟨rfl, ?_, I2.bk _ _ hC, hN.keeps I2.bk, T.keeps I2.bk, fun h' e hm => hx pins σ H2 s2 h' e C us I2 hm hE⟩)
  show us.length ≤ sizeLine
  rw [← r2.length]
  exact hz
section
variable {P : Program} {w : World} {K : PySem.W.Frag} {mg : Str → Option Value} {base : Heap}
theorem Fun.okX {x qual : Str} {st : Stmt} {f : Addr} {fd : FuncData} {N ps : List Str} {k : Nat} {sp : Sp} (F : Fun K x qual st f fd) (S : FnScope N ps (defScope st)) (len : ∀ vs H Q E, sp vs H Q E → vs.length = ps.length)
    (hbody : ∀ (cdv : Value) (A : Around) (outer : List Env) (s : Shared) (H : Hp) (vs : List V) (Q : VK) (E : XK), Room k (A.deeper (envOfC qual (defScope st) s.heap.objs.size f cdv)) → sp vs H Q E →
      ∃ t, PSs (cxOf (CX1 P w) P w K mg base N qual (defScope st) f cdv A outer s H E) (defBody st) t ∧ t { nx := fun _ H' => Q .non H', rt := Q } (start N vs) H) : FnOk P w K mg base (CX1 P w) (k + 1) f fd ps sp := by
  obtain ⟨oc, od, kV, doc, pm, an, cdv, ct, osl, rfl, lk, hcd⟩ := F.ex
  exact fn_of lk hcd S len fun A outer s H vs Q E hr hsp => hbody cdv A outer s H vs Q E hr hsp
theorem FnOk.up {k : Nat} {f : Addr} {fd : FuncData} {ps : List Str} {sp : Sp} (F : FnOk P w K mg base CX0 k f fd ps sp) : FnOk P w K mg base (CX1 P w) k f fd ps sp :=
  ⟨F.len, fun A outer s H args us vs Q E h1 h2 h3 h4 h5 => codeAny_mono (F.run A outer s H args us vs Q E h1 h2 h3 h4 h5) fun r s' q => by
    cases r with
    | error e => exact False.elim q
    | ok fl => cases fl <;> exact q⟩
end
end L2
namespace L2
open PySem PySem.Spec PyProof.Rows
def ExcO (a C : Addr) : HO := .ext fun h => ∃ o vs, h.get? a = some o ∧ o.cls = .ref C ∧ o.data = .fields vs
section
variable {X : Cx} {pins : List (Addr × Obj)} {σ : St} {H : Hp} {s : Shared}
theorem Inv.gone {i : Nat} {x : Str} {v : Option Value} {m : Str → Option Value} {h' : Heap} {t' : Nat} (I : Inv X pins σ H s) (hN : X.N.Nodup) (hi : X.N[i]? = some x) (hk : X.env.scope.names.lookup x = some .local) (hm : s.heap.Ns X.env.locals m)
    (hl : ∀ (j : Nat) (y : Str) (z : V), X.N[j]? = some y → σ[j]? = some (some z) → Vis X.env.scope y → ∃ u, RelV z u ∧ Look X.env s.heap m y u) (hn' : h'.Ns X.env.locals (fun y => if y = x then v else m y)) (hs : Heap.SameBut X.env.locals s.heap h') :
    Inv X pins (σ.set i none) H { s with heap := h', toks := t' } := by
  have hiσ : i < σ.length := by rw [I.len]; exact (List.getElem?_eq_some_iff.mp hi).1
  have cne := I.cne
  have lne : ∀ b o, X.s₀.heap.get? b = some o → b ≠ X.env.locals := fun b o e => Nat.ne_of_lt (Nat.lt_of_lt_of_le (Heap.lt_size e) I.ok.above)
  refine ⟨I.ok, I.os, I.bare, ⟨fun b o e n hb hx => (hs.2 b (lne b o e)).trans (I.base.keep b o e n hb hx), fun b o e n hb hx => ?_, I.base.free, fun b o e hx => ?_, I.base.tups, I.base.frzs, I.base.tbls⟩, ⟨_, hn', fun j y z e1 e2 e3 => ?_⟩,
    fun y c e => ?_, I.free, I.freeC, fun p hp => ?_, fun b ob e => ?_, by simpa using I.len⟩
  · obtain ⟨sl, q⟩ := I.base.slot b o e n hb hx
    exact ⟨sl, (hs.2 b (lne b o e)).trans q⟩
  · obtain ⟨o', q⟩ := I.base.there b o e hx
    exact ⟨o', (hs.2 b (lne b o e)).trans q⟩
  · by_cases hj : j = i
    · subst hj
      rw [List.getElem?_set_self hiσ] at e2
      cases e2
    · rw [List.getElem?_set_ne (Ne.symm hj)] at e2
      obtain ⟨u, r, q⟩ := hl j y z e1 e2 e3
      refine ⟨u, r, ?_⟩
      rcases q with ⟨k, e⟩ | ⟨k, c, e, cz⟩
      · refine .inl ⟨k, ?_⟩
        have ny : y ≠ x := fun e => hj (nodup_ix hN e1 (e ▸ hi))
        simp [ny, e]
      · exact .inr ⟨k, c, e, cz.sameBut hs (cne y c e)⟩
  · obtain ⟨w', z⟩ := I.cell y c e
    exact ⟨w', z.sameBut hs (cne y c e)⟩
  · obtain ⟨e, n, ne, nf, d⟩ := I.pin p hp
    exact ⟨(hs.2 p.1 ne).trans e, n, ne, nf, d⟩
  · refine (I.hok b ob e).stay (fun c w' hc q => (hs.2 c ?_).trans q) (fun _ q => q) fun _ _ q => q
    rintro rfl
    rcases hc with rfl | hc
    · rw [I.free] at e; cases e
    · rw [I.free] at hc; cases hc
theorem Inv.track {a : Addr} {o : HO} (I : Inv X pins σ H s) (hn : H a = none) (new : ObjOk X.prog X.w (upd H a o) s.heap a o) (h1 : a ≠ X.env.locals) (h2 : ∀ x c, X.env.cells.lookup x = some c → c ≠ a) (h3 : ∀ p ∈ X.pn ++ pins, p.1 ≠ a)
    (h4 : X.s₀.heap.get? a = none) : Inv X pins σ (upd H a o) s := by
  have ne : ∀ b u, H b = some u → b ≠ a := fun b u e z => by rw [z, hn] at e; cases e
  have n0 : ∀ b u, X.s₀.heap.get? b = some u → b ≠ a := fun b u e z => by rw [z, h4] at e; cases e
  refine ⟨I.ok, I.os, I.bare, ⟨I.base.keep, I.base.slot, fun b u e n hx => ?_, I.base.there, fun b xs e => ?_, fun b u v e => ?_, fun b ps e => ?_⟩, I.loc, I.cell, ?_, fun x c e => ?_, fun p hp => ?_, fun b u e => ?_, I.len⟩
  · rw [upd_ne (n0 b u e)]; exact I.base.free b u e n hx
  · have q := I.base.tups b xs e
    rw [upd_ne (ne b _ q)]; exact q
  · have q := I.base.frzs b u v e
    rw [upd_ne (ne b _ q)]; exact q
  · obtain ⟨more, q⟩ := I.base.tbls b ps e
    exact ⟨more, by rw [upd_ne (ne b _ q)]; exact q⟩
  · rw [upd_ne (Ne.symm h1)]; exact I.free
  · rw [upd_ne (h2 x c e)]; exact I.freeC x c e
  · obtain ⟨e, n, ne, nf, d⟩ := I.pin p hp
    exact ⟨e, by rw [upd_ne (h3 p hp)]; exact n, ne, nf, d⟩
  · by_cases hb : b = a
    · subst hb; rw [upd_same] at e; cases e; exact new
    · rw [upd_ne hb] at e
      exact (I.hok b u e).stay (fun c v _ q => q) (fun c q => by rw [upd_ne (ne c _ q)]; exact q) fun c xs q => by rw [upd_ne (ne c _ q)]; exact q
end
abbrev Cx.more (X : Cx) (xe : Value → Shared → Prop) (pn : List (Addr × Obj)) : Cx := { X with xe := xe, pn := pn }
abbrev Cx.suite (X : Cx) (a : Addr) (pn : List (Addr × Obj)) : Cx := { X with A := X.A.mark (some (.ref a)), calm := false, xe := fun _ _ => False, pn := pn }
theorem Cx.Ok.more {X : Cx} (ok : X.Ok) (xe : Value → Shared → Prop) (pn : List (Addr × Obj)) : (X.more xe pn).Ok :=
  ⟨ok.mod, ok.kind, ok.glob, ok.blt, ok.above, ok.inj, ok.has, ok.cab, ok.hd, ok.frames, ok.stk, ok.exf, ok.bs, ok.bsz, ok.noex, ok.exfs, ok.funs, ok.frf⟩
theorem Cx.Ok.suite {X : Cx} (ok : X.Ok) (a : Addr) (pn : List (Addr × Obj)) : (X.suite a pn).Ok :=
  ⟨ok.mod, ok.kind, ok.glob, ok.blt, ok.above, ok.inj, ok.has, ok.cab, fun z => absurd z (by show ¬ (false = true); decide), ok.frames, ok.stk, ok.exf, ok.bs, ok.bsz, ok.noex, ok.exfs, ok.funs, ok.frf⟩
def PassesAt (CX : CXT) (X : Cx) (E : XK) (σ : St) : Prop := ∀ (pins : List (Addr × Obj)) (H : Hp) (s : Shared) (e : Value) (s' : Shared), Inv X pins σ H s → CX X.stack H s E e s' → X.xe e s'
section
variable {X : Cx} {CX : CXT} {k : Nat} {f : Addr} {fd : FuncData} {ps : List Str} {sp : Sp} {dvs : List V} {ds : List Value} {EE : St → XK} {x : Str} {p pos : Pos} {e : Expr} {es : List Expr} {t : TA}
def tCallX (sp : Sp) (dvs : List V) (EE : St → XK) (t : TA) : TE := fun σ H Q => t σ H fun vs H1 => sp (vs ++ dvs) H1 Q (EE σ)
theorem pe_callX (F : FnOk X.prog X.w X.K X.mg X.base CX k f fd ps sp) (hr : Room k X.A) (hg : Gl X x) (hm : X.mg x = some (.ref f)) (hk : PySem.W.keepIn X.K (.ref f) = true) (hb : Binds X.K fd ps ds) (hd : Vals dvs ds) (hx : ∀ σ, PassesAt CX X (EE σ) σ)
    (ha : PA X (e :: es) t) (hdb : (x == ("__debug__" : Str)) = false := by decide) (he : starEach (e :: es) X.env = (false, eval e X.env) :: starEach es X.env := by rfl) (hpl : (backTo pos (starEach es X.env)).any (·.1) = false := by rfl) :
    PE X (.Call (.Name x p) (e :: es) [] pos) (tCallX sp dvs EE t) := by
  intro pins s σ H Q I h
  refine wpAny_Call_Name_kw (ld_glob I hg hm ?_ hdb)
  refine PySem.W.callWith_K (h₀ := X.base) I.ok.mod.kin hk (thn (ha pos pins s σ H _ I h) fun us s1 ⟨vs, H1, I1, r, q⟩ => ⟨I1.kIn, ?_⟩) he hpl
  have r2 : Vals (vs ++ dvs) (us ++ ds) := r.append hd
  have hl : (us ++ ds).length = ps.length := by rw [← r2.length]; exact F.len _ _ _ _ q
  refine wpAny_call (codeAny_mono (F.run X.A X.stack s1 H1 ⟨us, []⟩ (us ++ ds) (vs ++ dvs) Q (EE σ) hr I1.env0 (hb s1 us I1.kIn hl) r2 q) fun r s' hq => ?_)
  cases r with
  | error e => exact hx σ pins H1 s1 e s' I1 hq
  | ok fl =>
    cases fl with
    | ret u => exact I1.after hq
    | next => exact False.elim hq
    | brk => exact False.elim hq
    | cont => exact False.elim hq
end
def goneEnds (D : Ends) (i : Nat) : Ends := { nx := fun σ H => D.nx (σ.set i none) H, rt := D.rt, bk := fun σ H => D.bk (σ.set i none) H, ct := fun σ H => D.ct (σ.set i none) H }
def caughtBy (C : Addr) (i : Nat) (ts : TS) (D : Ends) : St → XK := fun σ1 cls _ H1 => cls = .ref C ∧ ∀ a, H1 a = none → ts (goneEnds D i) (σ1.set i (some (.ref a))) (upd H1 a (ExcO a C))
def tTry (C : Addr) (i : Nat) (tb : (St → XK) → TS) (ts : TS) : TS := fun D σ H => tb (caughtBy C i ts D) D σ H
end L2
namespace L2
open PySem PySem.Spec PyProof.Rows
structure Callee (P : Program) (w : World) (K : PySem.W.Frag) (mg : Str → Option Value) (base : Heap) (CX : CXT) (k : Nat) (x : Str) (ps : List Str) (sp : Sp) : Prop where
  has : ∃ (f : Addr) (fd : FuncData), FnOk P w K mg base CX k f fd ps sp ∧ mg x = some (.ref f) ∧ PySem.W.keepIn K (.ref f) = true ∧ Binds K fd ps []
theorem Callee.mk' {P : Program} {w : World} {K : PySem.W.Frag} {mg : Str → Option Value} {base : Heap} {CX : CXT} {k : Nat} {x qual : Str} {st : Stmt} {f : Addr} {fd : FuncData} {ps : List Str} {sp : Sp} (F : Fun K x qual st f fd) (m : mg x = some (.ref f)) (b : Binds K fd ps [])
    (ok : FnOk P w K mg base CX k f fd ps sp) : Callee P w K mg base CX k x ps sp := ⟨⟨f, fd, ok, m, F.kp, b⟩⟩
theorem Callee.mono {P : Program} {w : World} {K : PySem.W.Frag} {mg : Str → Option Value} {base : Heap} {CX : CXT} {j k : Nat} {x : Str} {ps : List Str} {sp : Sp} (c : Callee P w K mg base CX j x ps sp) (h : j ≤ k) : Callee P w K mg base CX k x ps sp :=
  let ⟨f, fd, ok, m, kp, b⟩ := c.has; ⟨⟨f, fd, ok.mono h, m, kp, b⟩⟩
section
variable {X : Cx} {CX : CXT} {k : Nat} {ps : List Str} {sp : Sp} {E : XK} {x : Str} {p pos : Pos} {e : Expr} {es : List Expr} {t : TA}
theorem pe_cal (c : Callee X.prog X.w X.K X.mg X.base CX k x ps sp) (hr : Room k X.A) (hg : Gl X x) (hx : Passes CX X E) (ha : PA X (e :: es) t) (hdb : (x == ("__debug__" : Str)) = false := by decide)
    (he : starEach (e :: es) X.env = (false, eval e X.env) :: starEach es X.env := by rfl) (hpl : (backTo pos (starEach es X.env)).any (·.1) = false := by rfl) : PE X (.Call (.Name x p) (e :: es) [] pos) (tCall sp [] E t) := by
  obtain ⟨f, fd, ok, m, kp, b⟩ := c.has
  exact pe_call ok hr hg m kp b .nil hx ha hdb he hpl
theorem pe_calX {EE : St → XK} (c : Callee X.prog X.w X.K X.mg X.base CX k x ps sp) (hr : Room k X.A) (hg : Gl X x) (hx : ∀ σ, PassesAt CX X (EE σ) σ) (ha : PA X (e :: es) t) (hdb : (x == ("__debug__" : Str)) = false := by decide)
    (he : starEach (e :: es) X.env = (false, eval e X.env) :: starEach es X.env := by rfl) (hpl : (backTo pos (starEach es X.env)).any (·.1) = false := by rfl) : PE X (.Call (.Name x p) (e :: es) [] pos) (tCallX sp [] EE t) := by
  obtain ⟨f, fd, ok, m, kp, b⟩ := c.has
  exact pe_callX ok hr hg m kp b .nil hx ha hdb he hpl
theorem call_isi : CallR X (.builtin "isinstance") (fun xs H Q => ∃ x n t b, xs = [x, .ty n] ∧ TyOf X.K H x t ∧ PySem.W.kitOne X.K t (.type n) = some b ∧ Q (.bl b) H) := by
  intro pins s σ H xs us Q I r h
  obtain ⟨x, n, t, b, rfl, ty, e, q⟩ := h
  obtain ⟨u, w', rfl, rx, ry⟩ := vals2 r
  cases (show w' = Value.type n from ry)
  exact isinst_ok I rx ty e fun tk => ⟨.bl b, H, I.tok tk, rfl, q⟩
end
end L2
namespace L2
open PySem PySem.Spec PyProof.Rows
theorem relabel_none {scope : Scope} {env : Env} (hfree : ∀ y ∈ scope.names, y.2 ≠ .free) : (relabel scope env).names = scope.names := by
  show scope.names.map _ = scope.names
  have all : ∀ l : List (Str × NameKind), (∀ y ∈ l, y.2 ≠ .free) → (l.map fun (x : Str × NameKind) => match x with | (n, k) => if (k == .free && env.scope.kind == .function && env.kindOf n == some .cell) then (n, .cell) else (n, k)) = l := by
    intro l
    induction l with
    | nil => intro _; rfl
    | cons y r ih =>
      intro hy
      obtain ⟨n, k⟩ := y
      have hk : (k == NameKind.free) = false := by simpa using hy (n, k) (List.mem_cons_self ..)
      rw [List.map_cons, ih fun z hz => hy z (List.mem_cons_of_mem _ hz)]
      simp [hk]
  exact all _ hfree
theorem pe_comp0 {X : Cx} {elt tg iter : Expr} {scope : Scope} {pos : Pos} {own : List Str} {wi : TI} {g : TG} {te : TE}
    (hc : X.calm = true) (hi : PI X tg iter wi) (hcell : ∀ y ∈ scope.names, y.2 ≠ .cell) (hfree : ∀ y ∈ scope.names, y.2 ≠ .free) (hkind : scope.kind = .function)
    (hnames : ∀ y ∈ scope.names, y.2 = .local → scope.names.lookup y.1 = some .local)
    (hg : ∀ (C : Addr) (ex : List Addr) (s : Shared) (H : Hp), PG (cxComp X own scope [] C ex s H) tg g)
    (he : ∀ (C : Addr) (ex : List Addr) (s : Shared) (H : Hp), PE (cxComp X own scope [] C ex s H) elt te)
    (hs : ∀ x, foldedSetIterable iter X.env x = pure x := by intro _; rfl) :
    PE X (.ListComp elt [⟨tg, iter, [], 0⟩] scope pos) (tComp wi own.length [] g te) := by
  refine pe_comp (own := own) (fv := []) (js := []) (cl := []) hc hi (closureFor_none hfree) hcell hkind hnames (fun x c h => by cases h) (fun x h => ?_) rfl (fun i x j h => by simp at h) (by simpa using hg) (by simpa using he) hs
  rw [relabel_none hfree] at h
  rcases h with h | h
  · exact absurd rfl (hcell _ (PySem.mem_of_lookup h))
  · exact absurd rfl (hfree _ (PySem.mem_of_lookup h))
end L2
namespace L2
open PySem PySem.Spec PyProof.Rows
def CDivW (i j : Int) : Prop := j ≠ 0 ∧ -18446744073709551616 < j ∧ j < 18446744073709551616
theorem log_small {y : Int} (h0 : -18446744073709551616 < y) (h1 : y < 18446744073709551616) : y.natAbs.log2 < 9000 := by
  by_cases z : y.natAbs = 0
  · rw [z]; decide
  · exact Nat.lt_of_lt_of_le ((Nat.log2_lt z).mpr (show y.natAbs < 2 ^ 64 by omega)) (by decide)
theorem op_fdivW {X : Cx} : OpR X (binaryOp .FloorDiv) (rI CDivW fun i j => .int (i.fdiv j)) := opI fun _ _ _ _ _ _ _ hc q => floordiv_int hc.1 q (.inl (PyProof.noPylong_of_log2 (log_small hc.2.1 hc.2.2)))
end L2
namespace L2
open PySem PySem.Spec PyProof.Rows
section
variable {K : PySem.W.Frag}
def LoopL (K : PySem.W.Frag) (g : TG) (tb : TS) (D : Ends) (σ : St) (x : V) (H1 : Hp) : Prop := ∃ a, x = .ref a ∧ (∃ xs, SqL K H1 a xs) ∧ ∃ W : Nat → Nat → St → Hp → Prop, (∃ m, W 0 m σ H1) ∧ ∀ i m σ H, W i m σ H →
  ((Itl K a).stop i H ∧ D.nx σ H) ∨ ((Itl K a).go i H ∧ ∃ N : St → Hp → Prop, (∀ σ' H', N σ' H' → ∃ m', m' < m ∧ W (i + 1) m' σ' H') ∧ ∀ x H', (Itl K a).yld i H x H' → g x σ H' fun σ2 H2 => tb { D with nx := N, ct := N, bk := D.nx } σ2 H2)
def LoopT (K : PySem.W.Frag) (g : TG) (tb : TS) (D : Ends) (σ : St) (x : V) (H1 : Hp) : Prop := ∃ a, x = .ref a ∧ (∃ xs, SqT K H1 a xs) ∧ ∃ W : Nat → Nat → St → Hp → Prop, (∃ m, W 0 m σ H1) ∧ ∀ i m σ H, W i m σ H →
  ((Itt K a).stop i H ∧ D.nx σ H) ∨ ((Itt K a).go i H ∧ ∃ N : St → Hp → Prop, (∀ σ' H', N σ' H' → ∃ m', m' < m ∧ W (i + 1) m' σ' H') ∧ ∀ x H', (Itt K a).yld i H x H' → g x σ H' fun σ2 H2 => tb { D with nx := N, ct := N, bk := D.nx } σ2 H2)
def LoopR (lo : Int) (n : Nat) (g : TG) (tb : TS) (D : Ends) (σ : St) (H1 : Hp) : Prop := ∃ W : Nat → Nat → St → Hp → Prop, (∃ m, W 0 m σ H1) ∧ ∀ i m σ H, W i m σ H →
  ((Itr lo n).stop i H ∧ D.nx σ H) ∨ ((Itr lo n).go i H ∧ ∃ N : St → Hp → Prop, (∀ σ' H', N σ' H' → ∃ m', m' < m ∧ W (i + 1) m' σ' H') ∧ ∀ x H', (Itr lo n).yld i H x H' → g x σ H' fun σ2 H2 => tb { D with nx := N, ct := N, bk := D.nx } σ2 H2)
theorem for_eqL {te : TE} {g : TG} {tb : TS} {D : Ends} {σ : St} {H : Hp} : tFor (iList K te) g tb D σ H = te σ H fun x H1 => LoopL K g tb D σ x H1 := rfl
theorem for_eqT {te : TE} {g : TG} {tb : TS} {D : Ends} {σ : St} {H : Hp} : tFor (iTup K te) g tb D σ H = te σ H fun x H1 => LoopT K g tb D σ x H1 := rfl
theorem for_eqR1 {ta : TA} {g : TG} {tb : TS} {D : Ends} {σ : St} {H : Hp} : tFor (iRng1 ta) g tb D σ H = ta σ H fun vs H1 => ∃ j : Int, vs = [.int j] ∧ -(2 ^ 62) ≤ j ∧ j < 2 ^ 62 ∧ LoopR 0 j.toNat g tb D σ H1 := rfl
theorem for_eqR2 {ta : TA} {g : TG} {tb : TS} {D : Ends} {σ : St} {H : Hp} : tFor (iRng2 ta) g tb D σ H = ta σ H fun vs H1 => ∃ i j : Int, vs = [.int i, .int j] ∧ (-(2 ^ 62) ≤ i ∧ i < 2 ^ 62 ∧ -(2 ^ 62) ≤ j ∧ j < 2 ^ 62) ∧ LoopR i (j - i).toNat g tb D σ H1 := rfl
theorem LoopL.mk {a : Addr} {xs : List V} {g : TG} {tb : TS} {D : Ends} {σ : St} {H : Hp} (hS : SqL K H a xs) (Pv : Nat → St → Hp → Prop) (h0 : Pv 0 σ H) (hl : ∀ i σ H, i ≤ xs.length → Pv i σ H → SqL K H a xs)
    (hs : ∀ i x σ H, xs[i]? = some x → Pv i σ H → g x σ H fun σ2 H2 => tb { D with nx := Pv (i + 1), ct := Pv (i + 1), bk := D.nx } σ2 H2) (hd : ∀ σ H, Pv xs.length σ H → D.nx σ H) : LoopL K g tb D σ (.ref a) H := ⟨a, rfl, ⟨xs, hS⟩, for_list Pv h0 hl hs hd⟩
theorem LoopT.mk {a : Addr} {xs : List V} {g : TG} {tb : TS} {D : Ends} {σ : St} {H : Hp} (hS : SqT K H a xs) (Pv : Nat → St → Hp → Prop) (h0 : Pv 0 σ H) (hl : ∀ i σ H, i ≤ xs.length → Pv i σ H → SqT K H a xs)
    (hs : ∀ i x σ H, xs[i]? = some x → Pv i σ H → g x σ H fun σ2 H2 => tb { D with nx := Pv (i + 1), ct := Pv (i + 1), bk := D.nx } σ2 H2) (hd : ∀ σ H, Pv xs.length σ H → D.nx σ H) : LoopT K g tb D σ (.ref a) H := ⟨a, rfl, ⟨xs, hS⟩, for_tup Pv h0 hl hs hd⟩
theorem LoopR.mk {lo : Int} {n : Nat} {g : TG} {tb : TS} {D : Ends} {σ : St} {H : Hp} (Pv : Nat → St → Hp → Prop) (h0 : Pv 0 σ H)
    (hs : ∀ i σ H, i < n → Pv i σ H → g (.int (lo + i)) σ H fun σ2 H2 => tb { D with nx := Pv (i + 1), ct := Pv (i + 1), bk := D.nx } σ2 H2) (hd : ∀ σ H, Pv n σ H → D.nx σ H) : LoopR lo n g tb D σ H := for_range Pv h0 hs hd
def CompL (K : PySem.W.Frag) (k : Nat) (js : List Nat) (g : TG) (te : TE) (σ : St) (x : V) (H1 : Hp) (Q : VK) : Prop := ∃ a, x = .ref a ∧ (∃ xs, SqL K H1 a xs) ∧ ∃ W : Nat → Nat → List V → St → Hp → Prop, (∃ m, W 0 m [] (compSt k js σ) H1) ∧ ∀ i m ys σ' H', W i m ys σ' H' →
    ((Itl K a).stop i H' ∧ ∀ p, H' p = none → Q (.ref p) (upd H' p (.lst ys))) ∨
    ((Itl K a).go i H' ∧ ys.length < sizeLine ∧ ∃ N : List V → St → Hp → Prop, (∀ zs σ2 H2, N zs σ2 H2 → ∃ m', m' < m ∧ W (i + 1) m' zs σ2 H2) ∧ ∀ x H2, (Itl K a).yld i H' x H2 → g x σ' H2 fun σ3 H3 => te σ3 H3 fun v H4 => N (ys ++ [v]) σ3 H4)
def CompT (K : PySem.W.Frag) (k : Nat) (js : List Nat) (g : TG) (te : TE) (σ : St) (x : V) (H1 : Hp) (Q : VK) : Prop := ∃ a, x = .ref a ∧ (∃ xs, SqT K H1 a xs) ∧ ∃ W : Nat → Nat → List V → St → Hp → Prop, (∃ m, W 0 m [] (compSt k js σ) H1) ∧ ∀ i m ys σ' H', W i m ys σ' H' →
    ((Itt K a).stop i H' ∧ ∀ p, H' p = none → Q (.ref p) (upd H' p (.lst ys))) ∨
    ((Itt K a).go i H' ∧ ys.length < sizeLine ∧ ∃ N : List V → St → Hp → Prop, (∀ zs σ2 H2, N zs σ2 H2 → ∃ m', m' < m ∧ W (i + 1) m' zs σ2 H2) ∧ ∀ x H2, (Itt K a).yld i H' x H2 → g x σ' H2 fun σ3 H3 => te σ3 H3 fun v H4 => N (ys ++ [v]) σ3 H4)
def CompR (lo : Int) (n k : Nat) (js : List Nat) (g : TG) (te : TE) (σ : St) (H1 : Hp) (Q : VK) : Prop := ∃ W : Nat → Nat → List V → St → Hp → Prop, (∃ m, W 0 m [] (compSt k js σ) H1) ∧ ∀ i m ys σ' H', W i m ys σ' H' →
    ((Itr lo n).stop i H' ∧ ∀ p, H' p = none → Q (.ref p) (upd H' p (.lst ys))) ∨
    ((Itr lo n).go i H' ∧ ys.length < sizeLine ∧ ∃ N : List V → St → Hp → Prop, (∀ zs σ2 H2, N zs σ2 H2 → ∃ m', m' < m ∧ W (i + 1) m' zs σ2 H2) ∧ ∀ x H2, (Itr lo n).yld i H' x H2 → g x σ' H2 fun σ3 H3 => te σ3 H3 fun v H4 => N (ys ++ [v]) σ3 H4)
theorem comp_eqL {k : Nat} {js : List Nat} {ti : TE} {g : TG} {te : TE} {σ : St} {H : Hp} {Q : VK} : tComp (iList K ti) k js g te σ H Q = ti σ H fun x H1 => CompL K k js g te σ x H1 Q := rfl
theorem comp_eqT {k : Nat} {js : List Nat} {ti : TE} {g : TG} {te : TE} {σ : St} {H : Hp} {Q : VK} : tComp (iTup K ti) k js g te σ H Q = ti σ H fun x H1 => CompT K k js g te σ x H1 Q := rfl
theorem comp_eqR1 {k : Nat} {js : List Nat} {ta : TA} {g : TG} {te : TE} {σ : St} {H : Hp} {Q : VK} : tComp (iRng1 ta) k js g te σ H Q = ta σ H fun vs H1 => ∃ j : Int, vs = [.int j] ∧ -(2 ^ 62) ≤ j ∧ j < 2 ^ 62 ∧ CompR 0 j.toNat k js g te σ H1 Q := rfl
theorem CompL.mk {a : Addr} {xs : List V} {k : Nat} {js : List Nat} {g : TG} {te : TE} {Q : VK} {σ : St} {H : Hp} (hS : SqL K H a xs) (Pv : Nat → List V → St → Hp → Prop) (h0 : Pv 0 [] (compSt k js σ) H) (hl : ∀ i ys σ H, i ≤ xs.length → Pv i ys σ H → SqL K H a xs)
    (hs : ∀ i x ys σ H, xs[i]? = some x → Pv i ys σ H → ys.length < sizeLine ∧ g x σ H fun σ3 H3 => te σ3 H3 fun v H4 => Pv (i + 1) (ys ++ [v]) σ3 H4) (hd : ∀ ys σ H, Pv xs.length ys σ H → ∀ p, H p = none → Q (.ref p) (upd H p (.lst ys))) :
    CompL K k js g te σ (.ref a) H Q := ⟨a, rfl, ⟨xs, hS⟩, comp_list Pv h0 hl hs hd⟩
theorem CompT.mk {a : Addr} {xs : List V} {k : Nat} {js : List Nat} {g : TG} {te : TE} {Q : VK} {σ : St} {H : Hp} (hS : SqT K H a xs) (Pv : Nat → List V → St → Hp → Prop) (h0 : Pv 0 [] (compSt k js σ) H) (hl : ∀ i ys σ H, i ≤ xs.length → Pv i ys σ H → SqT K H a xs)
    (hs : ∀ i x ys σ H, xs[i]? = some x → Pv i ys σ H → ys.length < sizeLine ∧ g x σ H fun σ3 H3 => te σ3 H3 fun v H4 => Pv (i + 1) (ys ++ [v]) σ3 H4) (hd : ∀ ys σ H, Pv xs.length ys σ H → ∀ p, H p = none → Q (.ref p) (upd H p (.lst ys))) :
    CompT K k js g te σ (.ref a) H Q := ⟨a, rfl, ⟨xs, hS⟩, comp_tup Pv h0 hl hs hd⟩
theorem CompR.mk {lo : Int} {n k : Nat} {js : List Nat} {g : TG} {te : TE} {Q : VK} {σ : St} {H : Hp} (Pv : Nat → List V → St → Hp → Prop) (h0 : Pv 0 [] (compSt k js σ) H)
    (hs : ∀ i ys σ H, i < n → Pv i ys σ H → ys.length < sizeLine ∧ g (.int (lo + i)) σ H fun σ3 H3 => te σ3 H3 fun v H4 => Pv (i + 1) (ys ++ [v]) σ3 H4) (hd : ∀ ys σ H, Pv n ys σ H → ∀ p, H p = none → Q (.ref p) (upd H p (.lst ys))) :
    CompR lo n k js g te σ H Q := comp_range Pv h0 hs hd
end
theorem cxOf_K {CX : CXT} {P : Program} {w : World} {K : PySem.W.Frag} {mg : Str → Option Value} {base : Heap} {N : List Str} {qual : Str} {scope : Scope} {f : Addr} {cd : Value} {A : Around} {outer : List Env} {s : Shared} {H : Hp} {E : XK} : (cxOf CX P w K mg base N qual scope f cd A outer s H E).K = K := rfl
theorem cxComp_K {X : Cx} {N : List Str} {scope : Scope} {cl : List (Str × Addr)} {C : Addr} {ex : List Addr} {s : Shared} {H : Hp} : (cxComp X N scope cl C ex s H).K = X.K := rfl
def tyS : V → Option String
  | .int _ => some "int"
  | .bl _ => some "bool"
  | .str _ => some "str"
  | .non => some "NoneType"
  | _ => none
def isiN (t n : String) : Bool := t == n || (t == "bool" && n == "int")
def isiB (x : V) (n : String) : Bool := match tyS x with
  | some t => isiN t n
  | none => false
theorem isi_ii {i : Int} : isiB (.int i) "int" = true := by show isiN "int" "int" = true; decide +kernel
theorem isi_ib {i : Int} : isiB (.int i) "bool" = false := by show isiN "int" "bool" = false; decide +kernel
theorem isi_bi {b : Bool} : isiB (.bl b) "int" = true := by show isiN "bool" "int" = true; decide +kernel
theorem isi_bb {b : Bool} : isiB (.bl b) "bool" = true := by show isiN "bool" "bool" = true; decide +kernel
theorem isi_it {i : Int} : isiB (.int i) "tuple" = false := by show isiN "int" "tuple" = false; decide +kernel
theorem kit_type {K : PySem.W.Frag} {t n : String} {b : Bool} (e : (if (Value.type t == Value.type n) = true then some true else if PySem.W.kitMeta n = true then (fastBuiltinMro t).map (·.contains (.type n)) else none) = some b) : PySem.W.kitOne K (.type t) (.type n) = some b := by
  unfold PySem.W.kitOne
  split at e
  · rename_i h; rw [if_pos h]; exact e
  · rename_i h; rw [if_neg h]; exact e
theorem kit_plain {K : PySem.W.Frag} {x : V} {t n : String} (hn : n ∈ ["int", "bool", "tuple", "list", "str"]) (ht : tyS x = some t) : PySem.W.kitOne K (.type t) (.type n) = some (isiB x n) := by
  simp only [List.mem_cons, List.mem_nil_iff, or_false] at hn
  cases x <;> simp only [tyS, reduceCtorEq, Option.some.injEq] at ht <;> subst ht <;> rcases hn with rfl | rfl | rfl | rfl | rfl <;> refine kit_type ?_ <;> simp only [isiB, tyS] <;> decide +kernel
theorem call_isiS {X : Cx} : CallR X (.builtin "isinstance") (fun xs H Q => ∃ x n, xs = [x, .ty n] ∧ (n ∈ ["int", "bool", "tuple", "list", "str"] ∧ (tyS x).isSome = true) ∧ Q (.bl (isiB x n)) H) := by
  intro pins s σ H xs us Q I r h
  obtain ⟨x, n, rfl, ⟨hn, hx⟩, q⟩ := h
  obtain ⟨t, ht⟩ := Option.isSome_iff_exists.mp hx
  refine call_isi pins s σ H _ us Q I r ⟨x, n, .type t, isiB x n, rfl, ?_, kit_plain hn ht, q⟩
  cases x <;> simp only [tyS, reduceCtorEq, Option.some.injEq] at ht <;> subst ht
  · exact .non
  · exact .bl _
  · exact .int _
  · exact .str _
end L2
namespace L2
open PySem PySem.Spec PyProof.Rows
theorem na2 : (Int.natAbs 2 < 18446744073709551616) = True := eq_true (by decide)
theorem na10 : (Int.natAbs 10 < 18446744073709551616) = True := eq_true (by decide)
theorem same_new {H : Hp} {p : Addr} (h : H p = none) (o : HO) : Same H (upd H p o) := fun b u q => by rw [upd_ne (ne_of_none q h)]; exact q
theorem small {n : Nat} (h : n ≤ 1000) : n ≤ sizeLine := Nat.le_of_lt (small1000 h)
theorem Same.tup {K : PySem.W.Frag} {H H' : Hp} {a : Addr} {xs : List V} (e : Same H H') (h : SqT K H a xs) : SqT K H' a xs := by
  rcases h with (h | ⟨o, h⟩) | h
  · exact .inl (.inl (e _ _ h))
  · exact .inl (.inr ⟨o, e _ _ h⟩)
  · exact .inr h
theorem st_one {σ : St} (h : σ.length = 1) : ∃ z, σ = [z] := by
  match σ, h with
  | [z], _ => exact ⟨z, rfl⟩
theorem take_succ' {α : Type} {l : List α} {i : Nat} {x : α} (h : l[i]? = some x) : l.take (i + 1) = l.take i ++ [x] := by
  rw [List.take_succ, h]; rfl
theorem CompL.vals {K : PySem.W.Frag} {a : Addr} {xs : List V} {te : TE} {Q : VK} {σ : St} {H : Hp} {fn : V → V} (hS : SqL K H a xs) (hz : xs.length ≤ 1000)
    (hs : ∀ x ∈ xs, ∀ H1, Same H H1 → ∀ Q' : VK, (∀ H2, Same H1 H2 → Q' (fn x) H2) → te [some x] H1 Q')
    (hd : ∀ H1, Same H H1 → ∀ p, H1 p = none → Q (.ref p) (upd H1 p (.lst (xs.map fn)))) : CompL K 1 [] (gName 0) te σ (.ref a) H Q := by
  refine CompL.mk hS (fun i ys σ' H' => Same H H' ∧ ys = (xs.take i).map fn ∧ σ'.length = 1) ⟨Same.refl _, rfl, rfl⟩ (fun i ys σ' H' _ h => h.1.seq hS) (fun i x ys σ' H' e h => ?_) (fun ys σ' H' h p hp => ?_)
  · obtain ⟨h1, rfl, h3⟩ := h
    obtain ⟨z, rfl⟩ := st_one h3
    refine ⟨?_, ?_⟩
    · rw [List.length_map, List.length_take]
      exact Nat.lt_of_le_of_lt (Nat.min_le_right _ _) (small1000 hz)
    · refine hs x (List.mem_of_getElem? e) H' h1 _ fun H2 h2 => ⟨h1.trans h2, ?_, rfl⟩
      rw [take_succ' e, List.map_append]; rfl
  · obtain ⟨h1, rfl, h3⟩ := h
    rw [List.take_length]
    exact hd H' h1 p hp
end L2
namespace L2
open PySem PySem.Spec PyProof.Rows
section
variable {X : Cx}
def rInT : R2 := fun x y H Q => ∃ p xs, y = .ref p ∧ H p = some (.tup xs) ∧ flatV x = true ∧ xs.all flatV = true ∧ Q (.bl (inV x xs)) H
def rInL : R2 := fun x y H Q => ∃ p xs, y = .ref p ∧ H p = some (.lst xs) ∧ flatV x = true ∧ xs.all flatV = true ∧ Q (.bl (inV x xs)) H
def rIxLH : R2 := fun x y H Q => ∃ p xs i v, x = .ref p ∧ y = .int i ∧ H p = some (.lst xs) ∧ atI xs i = some v ∧ Q v H
def rIxTH : R2 := fun x y H Q => ∃ p xs i v, x = .ref p ∧ y = .int i ∧ H p = some (.tup xs) ∧ atI xs i = some v ∧ Q v H
theorem ix_listH : IxR X rIxLH := by
  intro value slice pins s σ H x y v u Q I rx ry h hs
  obtain ⟨p, xs, i, z, rfl, rfl, hq, he, q⟩ := h
  exact ix_list value slice pins s σ H _ _ v u Q I rx ry ⟨p, xs, i, z, rfl, rfl, .of hq, he, q⟩ hs
theorem ix_tupH : IxR X rIxTH := by
  intro value slice pins s σ H x y v u Q I rx ry h hs
  obtain ⟨p, xs, i, z, rfl, rfl, hq, he, q⟩ := h
  exact ix_tup value slice pins s σ H _ _ v u Q I rx ry ⟨p, xs, i, z, rfl, rfl, .of hq, he, q⟩ hs
end
end L2
namespace L2
open PySem PySem.Spec PyProof.Rows
section
variable {X : Cx}
def gTupH (n : Nat) (t : TGs) : TG := fun v σ H Q => ∃ a xs, v = .ref a ∧ H a = some (.tup xs) ∧ xs.length = n ∧ t xs σ H Q
theorem pg_tupH {es : List Expr} {k : Nat} {pos : Pos} {t : TGs} {n : Nat} (h : PG X (.Tuple es k pos) (gTup X.K n t)) : PG X (.Tuple es k pos) (gTupH n t) := by
  intro pins s σ H v u Q I r q
  obtain ⟨a, xs, e, ha, hl, q⟩ := q
  exact h pins s σ H v u Q I r ⟨a, xs, e, .of ha, hl, q⟩
def tApp (to te : TE) : TE := fun σ H Q => to σ H fun x H1 => ∃ l, x = .ref l ∧ (∃ xs, H1 l = some (.lst xs)) ∧ te σ H1 fun v H2 => ∃ xs, H2 l = some (.lst xs) ∧ xs.length < sizeLine ∧ Q .non (upd H2 l (.lst (xs ++ [v])))
theorem pe_app {o e : Expr} {to te : TE} {apos cpos : Pos} (ho : PE X o to) (he : PE X e te)
    (hbase : attributeBase o "append" X.env (eval o X.env) = eval o X.env := by rfl) (hfew : ((backTo cpos (starEach [e] X.env)).all (fun x => !x.1) && (backToKw cpos (keywordEach [] X.env)).all (fun x => x.1.isSome)
      && decide ([e].length + ([] : List Keyword).length + (if ([] : List Keyword).isEmpty then 0 else 1) < 30)) = true := by rfl)
    (hline : (apos.endLine == cpos.line) = true := by rfl) (hs : starEach [e] X.env = [(false, eval e X.env)] := by rfl) : PE X (.Call (.Attribute o "append" apos) [e] [] cpos) (tApp to te) := by
  intro pins s σ H Q I h
  refine wpAny_Call_method_late hbase hfew hline rfl (thn (ho pins s σ H _ I h) fun v s1 ⟨x, H1, I1, r1, q1⟩ => ?_)
  obtain ⟨l, rfl, ⟨xs1, hx1⟩, q2⟩ := q1
  obtain ⟨h1, h2⟩ := tyV_is (T := "list") I1 r1 (.inl ⟨rfl, _, .of hx1⟩)
  refine ⟨"list", "list.append", PySem.F.plainAttrs_list, PySem.F.slot_list_append, PySem.F.type_list_append, h1, h2, ?_⟩
  have hA := (pa_cons he pa_nil hs) cpos pins s1 σ H1 (fun vs H2 => match vs with | [v] => ∃ xs, H2 l = some (.lst xs) ∧ xs.length < sizeLine ∧ Q .non (upd H2 l (.lst (xs ++ [v]))) | _ => False) I1 q2
  rw [hs] at hA ⊢
  refine Calls.callWith_builtin rfl (Calls.evalArgs_plain ?_)
  refine thn hA fun us s2 ⟨vs, H2, I2, r2, q3⟩ => ?_
  match vs, q3 with
  | [v2], ⟨xs, hx, hz, q⟩ => exact mt_append pins s2 σ H2 (.ref l) [v2] v us Q I2 r1 r2 ⟨l, xs, v2, rfl, rfl, hx, hz, q⟩
end
def SameX (l : Addr) (H H' : Hp) : Prop := ∀ b o, b ≠ l → H b = some o → H' b = some o
theorem SameX.refl (l : Addr) (H : Hp) : SameX l H H := fun _ _ _ h => h
theorem SameX.trans {l : Addr} {H H1 H2 : Hp} (a : SameX l H H1) (b : SameX l H1 H2) : SameX l H H2 := fun c o n h => b c o n (a c o n h)
theorem SameX.set {l : Addr} (H : Hp) (o : HO) : SameX l H (upd H l o) := fun b u n e => by rw [upd_ne n]; exact e
end L2
namespace L2
open PySem PySem.Spec PyProof.Rows PySem.W PySem.Calls
structure ExcK (K : PySem.W.Frag) (C : Addr) : Prop where
  cls : (clsIn K C).isSome = true
  ga : findIn K (.ref C) "__getattribute__" = some (some (.builtin "BaseException.__getattribute__"))
  gt : findIn K (.ref C) "__getattr__" = some none
  cl : findIn K (.ref C) "__class__" = some (some (.builtin "object.__class__"))
  mo : mroIn K C (.type "object") = some true
  mb : mroIn K C (.type "BaseException") = some true
section
variable {prog : Program} {w : World} {A : Around} {E : Value → Shared → Prop} {K : PySem.W.Frag} {h : Heap} {g : Array GenState} {d : Drawn} {t : Nat} {os : OsState} {a C : Addr} {ox : Obj}
theorem exc_get {R : Result → Shared → Prop} (X : K.In h) (k : ExcK K C) (hx : h.get? a = some ox) (hc : ox.cls = .ref C) (hq : R (.ok (.ret (.ref C))) ⟨h, g, d, t, os⟩) :
    codeAny (model prog w) A (.call (.builtin "getset_descriptor.__get__") ⟨[.builtin "object.__class__", .ref a, .ref C], []⟩) R ⟨h, g, d, t, os⟩ := by
  have L0 : Looks (model prog w) h (typeOf (.ref a)) (.ref C) := hc ▸ (Looks.ld hx).andThen .now
  have L1 := looks_mroIn (M := model prog w) X k.mo
  have hT5 : (⟨h, g, d, t, os⟩ : Shared).TypeIs (.builtin "object.__class__") "getset_descriptor" := F.typeOf_object_class
  have L2 : Looks (model prog w) h (isSubtype (.ref C) (.type (".".intercalate ("object.__class__".cutAt '.').dropLast))) true := by
    rw [show (".".intercalate ("object.__class__".cutAt '.').dropLast) = "object" by decide +kernel]
    exact L1
  refine codeAny_call_builtin F.slot_gs_get.plain F.entry_gs_get (F.slot_gs_get.check _ _ _ _ _ _ _ _ hT5 (F.args_gs_get _ _ _) ?_)
  repeat (any_goals (first | assumption | with_reducible refine L0.at ?_ | with_reducible refine L2.at ?_ | wp_step))
  refine ⟨Code.quiet_builtin _ (by decide +kernel), codeAny_builtin F.entry_object_class ?_⟩
  repeat (any_goals (first | assumption | with_reducible refine L0.at ?_ | wp_step))
theorem exc_entry {tk : Tok} {Q : Fin → Shared → Prop} (X : K.In h) (k : ExcK K C) (hx : h.get? a = some ox) (hc : ox.cls = .ref C) (hq : Q (.done (.ret (.ref C))) ⟨h, g, d, t, os⟩) :
    wpAny (model prog w) A (Builtin.«object.__getattribute__» ⟨[.ref a, .str "__class__" tk], []⟩) Q E ⟨h, g, d, t, os⟩ := by
  have L0 : Looks (model prog w) h (typeOf (.ref a)) (.ref C) := hc ▸ (Looks.ld hx).andThen .now
  have L3 := looks_findIn (M := model prog w) X k.cl
  have hT5 : (⟨h, g, d, t, os⟩ : Shared).TypeIs (.builtin "object.__class__") "getset_descriptor" := F.typeOf_object_class
  have f5 := F.typeOf_object_class
  have f6 := F.slot_gs_get.lookup
  have f7 := F.slot_gs_set.lookup
  repeat (any_goals (first | assumption | with_reducible refine L0.at ?_ | with_reducible refine L3.at ?_ | wp_step))
  refine exc_get X k hx hc ?_
  repeat (any_goals (first | assumption | wp_step))
theorem exc_check {M : Model} {nameV : Value} {Q : Unit → Shared → Prop} (X : K.In h) (k : ExcK K C) (hx : h.get? a = some ox) (hc : ox.cls = .ref C) (hq : Q () ⟨h, g, d, t, os⟩) :
    wpAny M A (checkBuiltinCall "BaseException.__getattribute__" ⟨[.ref a, nameV], []⟩) Q E ⟨h, g, d, t, os⟩ := by
  have e1 : builtinKind "BaseException.__getattribute__" = some .slot := by decide +kernel
  have e2 : splitId "BaseException.__getattribute__" = some ("BaseException", "__getattribute__") := by decide +kernel
  have e3 := F.args_bexc_ga (.ref a) nameV
  have L0 : Looks M h (typeOf (.ref a)) (.ref C) := hc ▸ (Looks.ld hx).andThen .now
  have L5 := looks_mroIn (M := M) X k.mb
  have LI : Looks M h (isInstance (.ref a) (.type "BaseException")) true := L0.andThen L5
  simp only [checkBuiltinCall, e1, e2]
  refine wpAny_bind (LI.at ?_)
  repeat (first | assumption | wp_step)
theorem exc_ca {Q : Option Value → Shared → Prop} {s : Shared} (X : K.In s.heap) (k : ExcK K C) (hx : s.heap.get? a = some ox) (hc : ox.cls = .ref C) (hq : Q (some (.ref C)) { s with toks := s.toks + 1 }) :
    wpAny (model prog w) A (getAttr? (.ref a) "__class__") Q E s := by
  obtain ⟨h, g, d, t, os⟩ := s
  have L0 : Looks (model prog w) h (typeOf (.ref a)) (.ref C) := hc ▸ (Looks.ld hx).andThen .now
  have L1 := looks_findIn (M := model prog w) X k.ga
  have L2 := looks_findIn (M := model prog w) X k.gt
  have f3 := F.excAttr_ValueError.ga.bind (.ref a)
  unfold getAttr? getAttrBy? getAttrBy
  refine wpAny_bind (wpAny_mkText (wpAny_bind (wpAny_attempt (wpAny_holding (wpAny_bind (L0.at (wpAny_bind (L1.at ?_))))))))
  dsimp only
  have n1 : ¬ (onTheHeap (Value.ref C) && Value.builtin "BaseException.__getattribute__" == Value.builtin "object.__getattribute__") = true := by
    show ¬ ((true && (Value.builtin "BaseException.__getattribute__" == Value.builtin "object.__getattribute__")) = true)
    decide +kernel
  rw [if_neg n1]
  unfold getAttrByItsOwn hookBefore
  refine wpAny_bind ?_
  rw [if_pos (show onTheHeap (Value.ref C) = true from rfl)]
  refine L2.at (wpAny_bind (wpAny_attempt (wpAny_holding ?_)))
  unfold callGetattribute
  rw [if_neg (by decide +kernel)]
  unfold boundAndCalled
  refine wpAny_bind (wpAny_of_eq f3 ?_)
  refine wpAny_call (codeAny_call_builtin F.excAttr_ValueError.ga.plain F.entry_bexc_ga (exc_check X k hx hc (exc_entry X k hx hc ?_)))
  repeat (any_goals (first | assumption | wp_step))
end
theorem kitx_exc {K : PySem.W.Frag} {a C : Addr} (k : ExcK K C) : KitX K (.ref a) (.ref C) (fun h => ∃ o vs, h.get? a = some o ∧ o.cls = .ref C ∧ o.data = .fields vs) where
  ty := fun M h _ ⟨o, _, h1, h2, _⟩ => h2 ▸ (Looks.ld h1).andThen .now
  it := fun M h X _ => by
    obtain ⟨cd, hcd⟩ := Option.isSome_iff_exists.mp k.cls
    unfold clsIn at hcd
    split at hcd
    · rename_i z1 z2 z3 z4 hlk
      intro A' Q' E' s' kk q
      unfold isType loadHead
      exact wpAny_bind (wpAny_loadPart (kk _ _ (X _ _ hlk)) (wpAny_pure q))
    · cases hcd
  ne := fun h tp dd its n sl X htp => by
    obtain ⟨cd, hcd⟩ := Option.isSome_iff_exists.mp k.cls
    refine Bool.eq_false_iff.mpr fun q => ?_
    have e : C = tp := Value.ref.inj (beq_iff_eq.mp q)
    subst e
    unfold clsIn at hcd
    split at hcd
    · rename_i z1 z2 z3 z4 hlk
      have z := (X _ _ hlk).symm.trans htp
      cases z
    · cases hcd
  ca := fun X ⟨o, _, h1, h2, _⟩ q => exc_ca X k h1 h2 q
section
variable {X : Cx}
theorem call_isiET {C : Addr} {cs : List Addr} {b : Bool} (k : ExcK X.K C) (e : kitAny X.K (.ref C) (cs.map Value.ref) = some b) :
    CallR X (.builtin "isinstance") (fun xs H Q => ∃ a p, xs = [.ref a, .ref p] ∧ H a = some (ExcO a C) ∧ H p = some (.tup (cs.map V.ref)) ∧ Q (.bl b) H) := by
  intro pins s σ H xs us Q I r h
  obtain ⟨a, p, rfl, ha, hp, q⟩ := h
  obtain ⟨u, u', rfl, r1, r2⟩ := vals2 r
  cases (show u = Value.ref a from r1)
  cases (show u' = Value.ref p from r2)
  obtain ⟨pe, _⟩ := (show ObjOk X.prog X.w H s.heap a (ExcO a C) from I.hok a _ ha)
  obtain ⟨zz, its, rv, ot, h1, h2, n, h3⟩ := (show ObjOk X.prog X.w H s.heap p (.tup (cs.map V.ref)) from I.hok p _ hp)
  have ei : its = cs.map Value.ref := by
    clear hp h3 h1 e zz
    induction cs generalizing its with
    | nil => cases rv; rfl
    | cons c r ih =>
      cases rv with
      | cons z rr =>
        rw [ih _ rr]
        cases (show _ = Value.ref c from z)
        rfl
  subst ei
  obtain ⟨oc, od, oda, osl⟩ := ot
  dsimp only at h2 h3
  subst h2 h3
  exact kia_tup (kitx_exc k) I.kIn pe h1 e (fun z => nomatch z) fun tk => ⟨.bl b, H, I.tok tk, rfl, q⟩
theorem pe_cls {x : Str} {C : Addr} {pos : Pos} (hg : Gl X x) (hn : PySem.W.nsIn X.K mainGlobals x = some (some (.ref C))) (hd : (x == ("__debug__" : Str)) = false := by decide) : PE X (.Name x pos) (tC (.ref C)) := by
  intro pins s σ H Q I h
  exact ld_glob I hg (PySem.W.mg_of I.ok.mod.kin I.ok.mod.glob hn) ⟨.ref C, H, I, rfl, h⟩ hd
end
end L2
namespace L2
open PySem PySem.Spec PyProof.Rows
def rvObj (t : Addr) (i : Int) : Obj := { cls := .type "reversed", data := .fields #[.ref t, rawInt i] }
def IsRv (h : Heap) (a t : Addr) (i : Int) : Prop := ∃ o, h.get? a = some o ∧ o.cls = .type "reversed" ∧ o.data = .fields #[.ref t, rawInt i]
theorem IsRv.typeIs {s : Shared} {a t : Addr} {i : Int} (x : IsRv s.heap a t i) : s.TypeIs (.ref a) "reversed" := let ⟨o, ho, hc, _⟩ := x; ⟨o, ho, hc⟩
theorem tup_norev : typeLookup (.type "tuple") "__reversed__" = pure none := by rw [typeLookup_type, builtinLookup_eq_fast]; kernel_rfl
theorem tup_getitem : typeLookup (.type "tuple") "__getitem__" = pure (some (.builtin "tuple.__getitem__")) := by rw [typeLookup_type, builtinLookup_eq_fast]; kernel_rfl
theorem tup_nodict : isSubtype (.type "tuple") (.type "dict") = pure false := by rw [isSubtype_type]; kernel_rfl
theorem rv_init : Slot "reversed" "__init__" "object.__init__" :=
  .of (owner := "object") (n := "__init__") (by rw [typeLookup_type, builtinLookup_eq_fast]; kernel_rfl) (by decide +kernel) (by decide +kernel) (by decide +kernel) (.inl (by decide +kernel)) (by rw [isSubtype_type]; kernel_rfl)
theorem rv_next : Slot "reversed" "__next__" "reversed.__next__" :=
  .of (owner := "reversed") (n := "__next__") (by rw [typeLookup_type, builtinLookup_eq_fast]; kernel_rfl) (by decide +kernel) (by decide +kernel) (by decide +kernel) (.inl (by decide +kernel)) (by rw [isSubtype_type]; kernel_rfl)
theorem rv_iter : Slot "reversed" "__iter__" "reversed.__iter__" :=
  .of (owner := "reversed") (n := "__iter__") (by rw [typeLookup_type, builtinLookup_eq_fast]; kernel_rfl) (by decide +kernel) (by decide +kernel) (by decide +kernel) (.inl (by decide +kernel)) (by rw [isSubtype_type]; kernel_rfl)
theorem rv_entry_next : entryFor table "reversed.__next__" = some Builtin.«reversed.__next__» := entryFor_of_tree (by kernel_rfl)
theorem rv_entry_iter : entryFor table "reversed.__iter__" = some Builtin.«dict_keyiterator.__iter__» :=
  entryFor_alias (id' := "dict_keyiterator.__iter__") (by kernel_rfl) (by first | rfl | decide +kernel) (by decide +kernel) (by kernel_rfl)
theorem rv_args_next (a : Value) : argsOk "reversed.__next__" ⟨[a], []⟩ := by unfold argsOk; kernel_rfl
theorem rv_args_iter (a : Value) : argsOk "reversed.__iter__" ⟨[a], []⟩ := by unfold argsOk; kernel_rfl
theorem rv_called : TypeCalled "reversed" "reversed.__new__" "object.__init__" :=
  ⟨by decide +kernel, PySem.F.create_reversed, ⟨_, _, PySem.F.mro_reversed⟩, PySem.F.made_reversed, PySem.F.plain_reversed_new, PySem.F.sub_reversed_self, rv_init⟩
theorem rv_new (t : Addr) (items : Array Value) (hz : (items.size : Int) < 2 ^ 63) : Meets (Builtin.«reversed.__new__» ⟨[.type "reversed", .ref t], []⟩)
    (fun _ R s => IsTup s.heap t items ∧ ∀ tk, R (.ok (.ret (.ref s.heap.objs.size))) { s with heap := s.heap.push (rvObj t ((items.size : Int) - 1)), toks := tk }) :=
  .of_wp fun prog w A R s h => by
    obtain ⟨ht, h⟩ := h
    have hT : s.TypeIs (.ref t) "tuple" := ht.typeIs
    unfold Builtin.«reversed.__new__»
    refine wpAny_bind (wpAny_of_eq (PySem.newClass_reversed _) ?_)
    try dsimp only
    refine wpAny_bind (wpAny_of_eq (a := ()) (by first | rfl | kernel_rfl) ?_)
    refine wpAny_bind (wpAny_of_eq (a := ()) (by first | rfl | kernel_rfl) ?_)
    try dsimp only
    refine wpAny_bind (wpAny_specialOf hT tup_norev ?_)
    try dsimp only
    refine wpAny_bind ?_
    k_delta "hasItemSlot"
    refine wpAny_bind (wpAny_isInstance (T := "tuple") (b := false) hT tup_nodict ?_)
    rw [if_neg Bool.false_ne_true]
    refine wpAny_bind (wpAny_specialOf hT tup_getitem ?_)
    dsimp only
    rw [if_pos (by decide +kernel)]
    refine wpAny_pure ?_
    rw [if_neg (by decide)]
    refine wpAny_bind (len_tuple ht hz ?_)
    refine wpAny_bind (wpAny_of_eq (a := some (items.size : Int)) rfl ?_)
    dsimp only
    refine wpAny_bind ?_
    unfold Builtin.SmallTypes.newRecord
    refine wpAny_newObj_type (wpAny_pure ⟨_, rfl, h _⟩)
section
variable {prog : Program} {w : World} {A : Around} {E : Value → Shared → Prop} {s : Shared}
theorem call_rv {t : Addr} {items : Array Value} {Q : Value → Shared → Prop} (ht : IsTup s.heap t items) (hz : (items.size : Int) < 2 ^ 63)
    (h : ∀ tk, Q (.ref s.heap.objs.size) { s with heap := s.heap.push (rvObj t ((items.size : Int) - 1)), toks := tk }) : wpAny (model prog w) A (call (.type "reversed") [.ref t]) Q E s :=
  callType_new rv_called (by decide) (PySem.F.typeCall_reversed_1 _) (PySem.F.newCall_reversed_1 _) (fun obj => F.args_object_init_2 obj _) PySem.F.entry_reversed_new (rv_new t items hz)
    ⟨ht, fun tk => ⟨⟨_, Heap.get?_push_size _ rfl, rfl⟩, h tk⟩⟩
theorem rv_item {it t : Addr} {i : Nat} {items : Array Value} {x : Value} {Q : Option Value → Shared → Prop} (hit : IsRv s.heap it t (i : Int)) (ht : IsTup s.heap t items) (hx : items[i]? = some x) (hz : (items.size : Int) < 2 ^ 63)
    (hQ : ∀ h' tk, IsRv h' it t ((i : Int) - 1) → Heap.SameBut it s.heap h' → Q (some x) { s with heap := h', toks := tk }) : wpAny (model prog w) A (pyNext (.ref it)) Q E s := by
  obtain ⟨o, ho, hc, hd⟩ := id hit
  have hT : s.TypeIs (.ref t) "tuple" := ht.typeIs
  have hi : i < items.size := (Array.getElem?_eq_some_iff.mp hx).1
  unfold pyNext
  refine wpAny_bind (wpAny_attempt (wpAny_callSpecial?_slot (name := Str.ofString "__next__") hit.typeIs rv_next (wpAny_call_entry rv_next hit.typeIs rv_entry_next ?_ (rv_args_next _))))
  unfold Builtin.«reversed.__next__»
  refine wpAny_bind (wpAny_of_eq (a := (Value.ref it, [])) rfl ?_)
  try dsimp only
  refine wpAny_bind (wpAny_field ho hd (x := .ref t) rfl ?_)
  refine wpAny_bind (wpAny_field ho hd (x := rawInt (i : Int)) rfl ?_)
  show wpAny _ _ (if (i : Int) < 0 then _ else _) _ _ s
  rw [if_neg (by omega)]
  refine wpAny_bind (wpAny_specialOf hT tup_getitem ?_)
  rw [if_neg (by decide)]
  refine wpAny_bind (wpAny_mkInt ?_)
  refine wpAny_bind (wpAny_attempt (getItem_tuple (k := (i : Int)) (j := i) ht (by omega) (by omega) (by simp [seqIndex?]; omega) hx ?_))
  dsimp only
  refine wpAny_bind (wpAny_field ho hd (x := rawInt (i : Int)) rfl ?_)
  show wpAny _ _ (setField (.ref it) 1 (rawInt ((i : Int) - 1)) >>= _) _ _ _
  refine wpAny_bind (wpAny_setField ho hd (by simp) ?_)
  refine wpAny_pure ⟨x, rfl, wpAny_pure (hQ _ _ ?_ (Heap.SameBut.update ..))⟩
  exact ⟨_, Heap.get?_update_self _ ho (Obj.isFreed_of_fields (Obj.data_mapFields hd _)), (Obj.cls_mapFields ..).trans hc, by rw [Obj.data_mapFields hd]; simp⟩
theorem rv_end {it t : Addr} {Q : Option Value → Shared → Prop} (hh : A.handled = none) (hit : IsRv s.heap it t (-1)) (hQ : ∀ h' tk, Heap.ExtBut it s.heap h' → Q none { s with heap := h', toks := tk }) : wpAny (model prog w) A (pyNext (.ref it)) Q E s := by
  obtain ⟨o, ho, hc, hd⟩ := id hit
  unfold pyNext
  refine wpAny_bind (wpAny_attempt (wpAny_callSpecial?_slot (name := Str.ofString "__next__") hit.typeIs rv_next (wpAny_call_entry rv_next hit.typeIs rv_entry_next ?_ (rv_args_next _))))
  unfold Builtin.«reversed.__next__»
  refine wpAny_bind (wpAny_of_eq (a := (Value.ref it, [])) rfl ?_)
  try dsimp only
  refine wpAny_bind (wpAny_field ho hd (x := .ref t) rfl ?_)
  refine wpAny_bind (wpAny_field ho hd (x := rawInt (-1)) rfl ?_)
  show wpAny _ _ (if (-1 : Int) < 0 then _ else _) _ _ s
  rw [if_pos (by decide)]
  refine wpAny_bind (wpAny_rule ?_)
  refine wpAny_bind ?_
  k_delta "reversedEnd"
  refine wpAny_bind (wpAny_setField ho hd (by simp) ?_)
  refine wpAny_setField (Heap.get?_update_self _ ho (Obj.isFreed_of_fields (Obj.data_mapFields hd _))) (Obj.data_mapFields hd _) (by simp) ?_
  refine wpAny_bind ?_
  have other : ∀ b u, b ≠ it → s.heap.get? b = some u → ((s.heap.update it (Obj.mapFields fun x => x.setIfInBounds 1 (rawInt (-1)))).update it (Obj.mapFields fun x => x.setIfInBounds 0 Value.none)).get? b = some u := fun b u nb e => by
    rw [Heap.get?_update_other _ _ (Ne.symm nb), Heap.get?_update_other _ _ (Ne.symm nb)]; exact e
  generalize ((s.heap.update it (Obj.mapFields fun x => x.setIfInBounds 1 (rawInt (-1)))).update it (Obj.mapFields fun x => x.setIfInBounds 0 Value.none)) = hU at *
  show wpAny _ _ (newExc (.type "StopIteration") [] >>= _) _ _ _
  refine wpAny_bind ?_
  simp only [newExc, newTuple]
  refine wpAny_bind (wpAny_newObj_type ?_ (by size_fits))
  refine wpAny_bind (m := firstArgMember _ _) (wpAny_of_eq (a := Value.none) (by first | rfl | (simp only [firstArgMember]; rfl)) ?_)
  refine wpAny_newObj_type ?_ (by size_fits)
  simp only [raiseNew]
  refine wpAny_bind (wpAny_handled ?_)
  rw [show A.in1.handled = none from hh]
  refine wpAny_bind (wpAny_pure (wpAny_throw ?_))
  refine wpAny_bind (wpAny_isInstance (T := "StopIteration") (b := true) ⟨_, Heap.get?_push_size _ rfl, rfl⟩ isSubtype_stop ?_)
  exact wpAny_pure (hQ _ _ fun b u nb e => Heap.get?_push_of_some _ (Heap.get?_push_of_some _ (other b u nb e)))
theorem rv_self {it t : Addr} {i : Int} {Q : Value → Shared → Prop} (hit : IsRv s.heap it t i) (h : Q (.ref it) s) : wpAny (model prog w) A (pyIter (.ref it)) Q E s := by
  refine wpAny_pyIter_slot hit.typeIs rv_iter (wpAny_call_entry rv_iter hit.typeIs rv_entry_iter ?_ (rv_args_iter _))
  show wpAny _ _ (ret (.ref it)) _ _ s
  exact wpAny_pure ⟨_, rfl, "reversed", _, hit.typeIs, rv_next.lookup, h⟩
end
def Itrv (K : PySem.W.Frag) (a : Addr) (n : Nat) : It := ⟨fun i H => ∃ xs, SqT K H a xs ∧ xs.length = n ∧ i < n, fun i H x H' => H' = H ∧ ∀ xs, SqT K H a xs → xs[n - 1 - i]? = some x, fun i H => ∃ xs, SqT K H a xs ∧ xs.length = n ∧ i = n⟩
theorem line63' : (sizeLine : Int) < 2 ^ 63 := by rw [sizeLine_eq]; decide
theorem turn_rv {P : Program} {w : World} {K : PySem.W.Frag} {tg : Expr} (a it : Addr) (n : Nat) : Turn P w K tg (Itrv K a n) [it] it (fun i h => IsRv h it a ((n : Int) - 1 - (i : Int))) where
  mem := by simp
  obj := fun i h x b hb => by
    have e : b = it := by simpa using hb
    subst e
    obtain ⟨o, ho, _, hd⟩ := x
    exact ⟨o, ho, fun v q => by rw [hd] at q; cases q⟩
  keep := fun i h h' x k => let ⟨o, ho, r⟩ := x; ⟨o, k it (by simp) o ho, r⟩
  item := by
    intro X hP hw hK hc i pins s σ H E I hf st hg
    subst hP hw hK
    obtain ⟨xs, hq, hn, hi⟩ := hg
    obtain ⟨its, rv, p, hz⟩ := I.tuple hq
    have hx : xs[n - 1 - i]? = some (xs[n - 1 - i]'(by omega)) := List.getElem?_eq_getElem (by omega)
    obtain ⟨u, hu, ru⟩ := rv.get hx
    obtain ⟨f0, f1, f2, f3, f4, f5⟩ := hf it (by simp)
    have e : (n : Int) - 1 - (i : Int) = ((n - 1 - i : Nat) : Int) := by omega
    rw [e] at st
    have hl := rv.length
    have z63 := line63'
    refine rv_item st p (x := u) (by simpa using hu) (by simp; omega) fun h' tk st' sb => ?_
    have I1 : Inv X pins σ H { s with heap := h', toks := tk } := I.turned (t' := tk) (fun b o hb e => (sb.2 b hb).trans e) f0 f1 f3 f4 f5
    obtain ⟨o, e, c, d⟩ := id st'
    have e2 : ((n - 1 - i : Nat) : Int) - 1 = (n : Int) - 1 - ((i + 1 : Nat) : Int) := by omega
    rw [e2] at st'
    exact ⟨u, rfl, go_of (s := { s with heap := h', toks := tk }) e c d (by decide) ⟨_, H, I1, ru, ⟨rfl, fun ys hy => by rw [I.tuple_inj hy hq]; exact hx⟩, st', fun b hb => (hf b hb).1⟩⟩
  done := by
    intro X hP hw hK hc i pins s σ H E I hf st hg
    subst hP hw hK
    obtain ⟨xs, hq, hn, hi⟩ := hg
    obtain ⟨f0, f1, f2, f3, f4, f5⟩ := hf it (by simp)
    have e : (n : Int) - 1 - (i : Int) = -1 := by omega
    rw [e] at st
    exact rv_end (I.ok.hd hc) st fun h' tk eb => ⟨rfl, I.turned (t' := tk) (fun b o hb e => eb b o hb e) f0 f1 f3 f4 f5⟩
  self := fun _ _ _ _ _ st h => rv_self st h
section
variable {X : Cx} {tg : Expr}
def iRevT (K : PySem.W.Frag) (te : TE) : TI := fun σ H R => te σ H fun x H1 => ∃ a xs, x = .ref a ∧ SqT K H1 a xs ∧ R (Itrv K a xs.length) H1
theorem pi_revT {e : Expr} {te : TE} {p pos : Pos} (hg : Gl X "reversed") (hm : X.mg "reversed" = none) (he : PE X e te) (hs : starEach [e] X.env = [(false, eval e X.env)] := by rfl) :
    PI X tg (.Call (.Name "reversed" p) [e] [] pos) (iRevT X.K te) := by
  intro pins s σ H R I h
  have hA := (pa_cons he (pa_nil (X := X)) hs) pos pins s σ H (fun vs H1 => match vs with | [x] => ∃ a xs, x = .ref a ∧ SqT X.K H1 a xs ∧ R (Itrv X.K a xs.length) H1 | _ => False) I h
  refine Call_ (ld_blt I hg hm boot_reversed (PyProof.Rows.callWith_type1 (thn hA fun us s1 ⟨vs, H1, I1, r1, q1⟩ => ?_) hs rfl))
  match vs, q1 with
  | [x], ⟨a, xs, e, hq, q⟩ =>
    subst e
    obtain ⟨u, rfl, ru⟩ := vals1 r1
    cases (show u = Value.ref a from ru)
    obtain ⟨its, rv, p, hz⟩ := I1.tuple hq
    have hl := rv.length
    have z63 := line63'
    refine call_rv p (by simp; omega) fun tk => ?_
    have I2 : Inv X pins σ H1 { s1 with heap := s1.heap.push (rvObj a ((its.toArray.size : Int) - 1)), toks := tk } := I1.kept (t' := tk) fun b o e => Heap.get?_push_of_some _ e
    have ir : IsRv (s1.heap.push (rvObj a ((its.toArray.size : Int) - 1))) s1.heap.objs.size a ((xs.length : Int) - 1 - ((0 : Nat) : Int)) := by
      refine ⟨_, Heap.get?_push_size _ rfl, rfl, ?_⟩
      show Data.fields #[.ref a, rawInt ((its.toArray.size : Int) - 1)] = _
      have e : ((its.toArray.size : Nat) : Int) - 1 = (xs.length : Int) - 1 - ((0 : Nat) : Int) := by simp; omega
      rw [e]
    refine rv_self ir ⟨s1.heap.objs.size, [s1.heap.objs.size], _, _, H1, rfl, I2, turn_rv a _ xs.length, ir, fun b hb => ?_, q⟩
    have e : b = s1.heap.objs.size := by simpa using hb
    subst e
    exact I1.fpOk (Nat.le_refl _) (I1.hok.fresh (Nat.le_refl _))
end
def LoopV (K : PySem.W.Frag) (g : TG) (tb : TS) (D : Ends) (σ : St) (x : V) (H1 : Hp) : Prop := ∃ a xs, x = .ref a ∧ SqT K H1 a xs ∧ ∃ W : Nat → Nat → St → Hp → Prop, (∃ m, W 0 m σ H1) ∧ ∀ i m σ H, W i m σ H →
  ((Itrv K a xs.length).stop i H ∧ D.nx σ H) ∨ ((Itrv K a xs.length).go i H ∧ ∃ N : St → Hp → Prop, (∀ σ' H', N σ' H' → ∃ m', m' < m ∧ W (i + 1) m' σ' H') ∧ ∀ x H', (Itrv K a xs.length).yld i H x H' → g x σ H' fun σ2 H2 => tb { D with nx := N, ct := N, bk := D.nx } σ2 H2)
theorem for_eqV {K : PySem.W.Frag} {te : TE} {g : TG} {tb : TS} {D : Ends} {σ : St} {H : Hp} : tFor (iRevT K te) g tb D σ H = te σ H fun x H1 => LoopV K g tb D σ x H1 := rfl
theorem LoopV.mk {K : PySem.W.Frag} {a : Addr} {xs : List V} {g : TG} {tb : TS} {D : Ends} {σ : St} {H : Hp} (hS : SqT K H a xs) (Pv : Nat → St → Hp → Prop) (h0 : Pv 0 σ H) (hl : ∀ i σ H, i ≤ xs.length → Pv i σ H → SqT K H a xs)
    (hs : ∀ i x σ H, i < xs.length → xs[xs.length - 1 - i]? = some x → Pv i σ H → g x σ H fun σ2 H2 => tb { D with nx := Pv (i + 1), ct := Pv (i + 1), bk := D.nx } σ2 H2) (hd : ∀ σ H, Pv xs.length σ H → D.nx σ H) : LoopV K g tb D σ (.ref a) H := by
  refine ⟨a, xs, rfl, hS, fun i m σ H => m = xs.length - i ∧ i ≤ xs.length ∧ Pv i σ H, ⟨xs.length, by simp, Nat.zero_le _, h0⟩, ?_⟩
  rintro i m σ H ⟨rfl, hi, p⟩
  have q := hl i σ H hi p
  by_cases hlt : i < xs.length
  · refine .inr ⟨⟨xs, q, rfl, hlt⟩, Pv (i + 1), fun σ' H' p' => ⟨xs.length - (i + 1), by omega, rfl, hlt, p'⟩, fun x H' y => ?_⟩
    obtain ⟨e, y⟩ := y
    subst e
    exact hs i x σ _ hlt (y xs q) p
  · have e : i = xs.length := by omega
    subst e
    exact .inl ⟨⟨xs, q, rfl, rfl⟩, hd σ H p⟩
end L2
namespace L2
open PySem PySem.Spec PyProof.Rows
theorem lri_nolen : typeLookup (.type "list_reverseiterator") "__len__" = pure none := by rw [typeLookup_type, builtinLookup_eq_fast]; kernel_rfl
theorem lri_hint : typeLookup (.type "list_reverseiterator") "__length_hint__" = pure (some (.builtin "list_reverseiterator.__length_hint__")) := by rw [typeLookup_type, builtinLookup_eq_fast]; kernel_rfl
section
variable {pg : Program} {wd : World} {B : Around} {X0 : Value → Shared → Prop} {s0 : Shared} {J : Addr} {fs ws : List Addr} {Gg : Array GenState → Array GenState → Prop} {m : Nat} {Pr : Nat → Value → Prop} {Sx : Nat → Shared → Prop}
theorem collect_lri {R : List Value → Shared → Prop} (wk : WalksS pg wd B.in1 J fs ws Gg m Pr Sx) (ty : ∀ j z, Sx j z → z.TypeIs (.ref J) "list_reverseiterator") (z0 : Sx 0 s0) (lt : ∀ b ∈ fs, b < s0.heap.objs.size) (mJ : J ∈ fs) (sm : m ≤ sizeLine)
    (fin : ∀ z' ac, Moved ws Gg s0 z' → ItemsOf Pr ac m → R ac.toList z') : wpAny (model pg wd) B (collect (.ref J)) R X0 s0 := by
  have out : s0.heap.objs.size ∉ fs := fun q => absurd (lt _ q) (Nat.lt_irrefl _)
  have neJ : s0.heap.objs.size ≠ J := by rintro rfl; exact out mJ
  let nu : Obj := { cls := .type "list", data := .seq ([] : List Value).toArray }
  unfold collect
  refine wpAny_bind (wpAny_runValue (codeAny_builtin F.entry_proto_collect ?_))
  rw [Around.under_plainId F.plain_proto_collect _]
  show wpAny _ B.in1 (newList [] >>= fun q => again (.builtin "list.__iadd__" ⟨[q, .ref J], []⟩)) _ _ s0
  refine wpAny_bind (wpAny_newObj_type ?_)
  refine wpAny_pure ⟨plainId_quiet F.plain_list_iadd _, codeAny_builtin F.entry_list_iadd ?_⟩
  rw [Around.under_plainId F.plain_list_iadd _]
  have z1 := wk.frame 0 s0 (s0.heap.push nu) s0.toks z0 (Nat.le_refl _) fun b _ o e => Heap.get?_push_of_some _ e
  have at1 : (s0.heap.push nu).get? s0.heap.objs.size = some nu := Heap.get?_push_size _ rfl
  have dif : Builtin.List.listSameRef (.ref s0.heap.objs.size) (.ref J) = false := by simp [Builtin.List.listSameRef, neJ]
  show wpAny _ B.in1 (Builtin.List.listExtendWith (.ref s0.heap.objs.size) (.ref J) (.ref s0.heap.objs.size)) _ _ _
  unfold Builtin.List.listExtendWith
  refine wpAny_bind (wpAny_typeOf (ty 0 _ z1) ?_)
  rw [if_neg (by rw [dif]; decide)]
  refine wpAny_bind (wk.self 0 _ _ _ z1 ?_)
  refine wpAny_bind (wpAny_holding ?_)
  unfold Builtin.List.listLengthHint
  refine wpAny_bind (wpAny_specialOf (ty 0 _ z1) lri_nolen ?_)
  show wpAny _ B.in1 (specialOf (Value.ref J) (Str.ofString "__length_hint__") >>= _) _ _ _
  refine wpAny_bind (wpAny_specialOf (ty 0 _ z1) lri_hint ?_)
  (generalize hid : ("list_reverseiterator.__length_hint__" : String) = id0; wp_delta; rw [show splitId id0 = some ("list_reverseiterator", "__length_hint__") from by subst hid; decide +kernel]; subst hid)
  refine wpAny_bind (wpAny_isInstance (b := true) (ty 0 _ z1) (by rw [isSubtype_type]; kernel_rfl) ?_)
  refine wpAny_pure ?_
  rw [if_neg (by decide)]
  refine wpAny_pure ⟨plainId_quiet F.plain_extend_loop _, codeAny_extend_loopS wk sm _ out _ m 0 _ _ _ rfl (Nat.zero_le _) z1 at1 (ItemsOf.nil Pr) fun z' ac cc mv at2 its => ?_⟩
  show wpAny _ B (load s0.heap.objs.size >>= _) _ _ z'
  exact wpAny_bind (wpAny_load at2 (wpAny_pure (fin z' ac (Moved.drop_new (o := nu) (tk := s0.toks) mv (Nat.le_refl _)) its)))
theorem new_tuple_lri {R : Value → Shared → Prop} (wk : WalksS pg wd B.in1.in1 J fs ws Gg m Pr Sx) (ty : ∀ j z, Sx j z → z.TypeIs (.ref J) "list_reverseiterator") (z0 : Sx 0 s0) (lt : ∀ b ∈ fs, b < s0.heap.objs.size) (mJ : J ∈ fs) (sm : m ≤ sizeLine)
    (fin : ∀ z' ac, Moved ws Gg s0 z' → ItemsOf Pr ac m → R (.ref z'.heap.objs.size) { z' with heap := z'.heap.push { cls := .type "tuple", data := .seq ac } }) :
    codeAny (model pg wd) B (.call (.builtin "tuple.__new__") ⟨[.type "tuple", .ref J], []⟩) (wants R X0) s0 := by
  refine codeAny_of_tree ?_
  show wpAny _ B.in1 (do checkBuiltinCall "tuple.__new__" ⟨[.type "tuple", .ref J], []⟩; again (.builtin "tuple.__new__" ⟨[.type "tuple", .ref J], []⟩)) _ _ s0
  refine wpAny_bind (wpAny_of_eq (F.newCall_tuple_1 _) (wpAny_pure ⟨plainId_quiet F.plain_tuple_new _, codeAny_builtin F.entry_tuple_new ?_⟩))
  rw [Around.under_plainId F.plain_tuple_new _]
  have q1 := sub_tuple_self
  have q2 := init_tuple_lookup
  have q3 := madeHere_tuple
  have q4 := ty 0 s0 z0
  wp_walk using wpAny_typeOf q4, collect_lri (sm := sm) wk ty z0 lt mJ
  intro z' ac mv its
  show wpAny _ _ (Builtin.Tuple.tupleExact ac.toList.toArray >>= fun q => ret q) _ _ _
  have e : ac.toList.toArray = ac := by simp
  rw [e]
  unfold Builtin.Tuple.tupleExact
  exact wpAny_bind (wpAny_newObj_type (wpAny_pure (fin z' ac mv its)) (by show ac.size ≤ sizeLine; rw [its.1]; exact sm))
theorem call_tuple_lri {R : Value → Shared → Prop} (wk : WalksS pg wd B.in1.in1.in1 J fs ws Gg m Pr Sx) (ty : ∀ j z, Sx j z → z.TypeIs (.ref J) "list_reverseiterator") (z0 : Sx 0 s0) (lt : ∀ b ∈ fs, b < s0.heap.objs.size) (mJ : J ∈ fs) (sm : m ≤ sizeLine)
    (fin : ∀ z' ac, Moved ws Gg s0 z' → ItemsOf Pr ac m → R (.ref z'.heap.objs.size) { z' with heap := z'.heap.push { cls := .type "tuple", data := .seq ac } }) :
    wpAny (model pg wd) B (call (.type "tuple") [.ref J]) R X0 s0 :=
  callType_codes (Q₁ := fun ob z => z.TypeIs ob "tuple" ∧ R ob z) F.called_tuple (F.typeCall_tuple_1 _) F.entry_object_init
    (new_tuple_lri (sm := sm) wk ty z0 lt mJ fun z' ac mv its => ⟨⟨_, Heap.get?_push_size _ rfl, rfl⟩, fin z' ac mv its⟩)
    fun ob z q => ⟨q.1, F.args_object_init_2 ob _, object_init_meets F.called_tuple.init.lookup F.called_tuple.made (by decide) pg wd B.in1 _ z ⟨q.1, rfl, q.2⟩⟩
end
section
variable {X : Cx}
def tTupRev (K : PySem.W.Frag) (te : TE) : TE := fun σ H Q => te σ H fun x H1 => ∃ a xs, x = .ref a ∧ SqL K H1 a xs ∧ ∀ p, H1 p = none → Q (.ref p) (upd H1 p (.tup xs.reverse))
theorem pe_tupRev {e : Expr} {te : TE} {p1 p2 pos pos' : Pos} (hc : X.calm = true) (ht : Gl X "tuple") (hr : Gl X "reversed") (mt : X.mg "tuple" = none) (mr : X.mg "reversed" = none) (he : PE X e te) (hs : starEach [e] X.env = [(false, eval e X.env)] := by rfl) :
    PE X (.Call (.Name "tuple" p1) [.Call (.Name "reversed" p2) [e] [] pos'] [] pos) (tTupRev X.K te) := by
  intro pins s σ H Q I h
  refine Call_ (ld_blt I ht mt boot_tuple (PyProof.Rows.callWith_type1 ?_ rfl rfl))
  refine Calls.spliced_cons ?_
  have hA := (pa_cons he (pa_nil (X := X)) hs) pos' pins s σ H (fun vs H1 => match vs with | [x] => ∃ a xs, x = .ref a ∧ SqL X.K H1 a xs ∧ ∀ p, H1 p = none → Q (.ref p) (upd H1 p (.tup xs.reverse)) | _ => False) I h
  refine Call_ (ld_blt I hr mr boot_reversed (PyProof.Rows.callWith_type1 (thn hA fun us s1 ⟨vs, H1, I1, r1, q1⟩ => ?_) hs rfl))
  match vs, q1 with
  | [x], ⟨a, xs, e, hq, q⟩ =>
    subst e
    obtain ⟨u, rfl, ru⟩ := vals1 r1
    cases (show u = Value.ref a from ru)
    obtain ⟨its, rv, pl, hz⟩ := I1.list hq
    have hl := rv.length
    refine call_reversed_list pl.isList ?_
    refine Calls.spliced_nil ?_
    have I2 : Inv X pins σ H1 { s1 with heap := s1.heap.push (revObj a ((its.toArray.size : Int) - 1)) } := I1.kept (t' := s1.toks) fun b o e => Heap.get?_push_of_some _ e
    have al : a < s1.heap.objs.size := by obtain ⟨o, ho, _⟩ := pl.isList; exact Heap.lt_size ho
    have hne : a ≠ s1.heap.objs.size := Nat.ne_of_lt al
    have ir : (s1.heap.push (revObj a ((its.toArray.size : Int) - 1))).IsRevIter s1.heap.objs.size a ((its.toArray.size : Int) - 1 - ((0 : Nat) : Int)) := by
      refine ⟨_, Heap.get?_push_size _ rfl, rfl, ?_⟩
      have e : (its.toArray.size : Int) - 1 - ((0 : Nat) : Int) = (its.toArray.size : Int) - 1 := by omega
      rw [e]; rfl
    have sz : (s1.heap.push (revObj a ((its.toArray.size : Int) - 1))).objs.size = s1.heap.objs.size + 1 := by simp [Heap.push]
    have ff := I1.fpOk (Nat.le_refl s1.heap.objs.size) (I1.hok.fresh (Nat.le_refl _))
    refine call_tuple_lri (Walks.listRev (A := X.A.in1.in1.in1) (I.ok.hd hc) s1.heap.objs.size a hne its.toArray).toS (fun j z q => let ⟨o, ho, hk, _⟩ := q.2.1; ⟨o, ho, hk⟩)
      ⟨Nat.zero_le _, ir, pl.isList.at fun o e => Heap.get?_push_of_some _ e⟩ (fun b hb => ?_) (List.mem_cons_self ..) (by simp only [List.size_toArray]; omega) fun z' ac mv io => ?_
    · show b < (s1.heap.push (revObj a ((its.toArray.size : Int) - 1))).objs.size
      rw [sz]
      simp only [List.mem_cons, List.not_mem_nil, or_false] at hb
      rcases hb with rfl | rfl
      · exact Nat.lt_succ_self _
      · exact Nat.lt_succ_of_lt al
    have I3 : Inv X pins σ H1 z' := by
      obtain ⟨zh, zg, zd, zt, zo⟩ := z'
      have e1 : zg = s1.gens := mv.gens
      have e2 : zd = s1.drawn := mv.drawn
      have e3 : zo = s1.os := mv.os
      subst e1 e2 e3
      obtain ⟨f0, f1, f2, f3, f4, f5⟩ := ff
      exact I1.turned (t' := zt) (fun b o hb e => mv.heap b o (by simpa using hb) (Heap.get?_push_of_some _ e)) f0 f1 f3 f4 f5
    have er : ac = its.reverse.toArray := by
      have sz2 : ac.size = its.length := by simpa using io.1
      apply Array.ext
      · simp [sz2]
      · intro j h1 h2
        have q := io.2 j _ (Array.getElem?_eq_getElem h1)
        simp only [List.size_toArray, List.getElem?_toArray] at q
        have q2 : its.reverse[j]? = some ac[j] := by rw [List.getElem?_reverse (by omega)]; exact q
        rw [List.getElem_toArray]
        exact (Option.some.inj ((List.getElem?_eq_getElem (by simpa using h2)).symm.trans q2)).symm
    subst er
    have I4 : Inv X pins σ (upd H1 z'.heap.objs.size (.tup xs.reverse)) { z' with heap := z'.heap.push { cls := .type "tuple", data := .seq its.reverse.toArray } } :=
      I3.laid (t' := z'.toks) (fun b o e => Heap.get?_push_of_some _ e) (Nat.le_refl _) (show ObjOk X.prog X.w _ _ _ (.tup xs.reverse) from ⟨by simpa using hz, its.reverse, rv.reverse, IsTup.new _ _⟩)
    exact ⟨.ref z'.heap.objs.size, _, I4, rfl, q _ (I3.hok.fresh (Nat.le_refl _))⟩
end
end L2
namespace L2
open PySem PySem.Spec PyProof.Rows
section
variable {X : Cx}
def rCatA (K : PySem.W.Frag) : R2 := fun x y H Q => ∃ a b xs ys, x = .ref a ∧ y = .ref b ∧ SqT K H a xs ∧ SqT K H b ys ∧ xs.length + ys.length ≤ sizeLine ∧
  (xs = [] → Q (.ref b) H) ∧ (xs ≠ [] → ys = [] → Q (.ref a) H) ∧ (xs ≠ [] → ys ≠ [] → ∀ p, H p = none → Q (.ref p) (upd H p (.tup (xs ++ ys))))
theorem op_catA : OpR X (binaryOp .Add) (rCatA X.K) := by
  intro pins s σ H x y v u Q I rx ry h
  obtain ⟨a, b, xs, ys, rfl, rfl, ha, hb, hz, q0, q1, q2⟩ := h
  by_cases hx : xs = []
  · cases rx
    cases ry
    obtain ⟨its, r1, p1, _⟩ := I.tuple ha
    obtain ⟨its2, r2, p2, _⟩ := I.tuple hb
    have e1 : its = [] := r1.nil_iff.mpr hx
    obtain ⟨⟨c1, d1, z1, l1⟩, g1, hc1, n1, hd1⟩ := id p1
    obtain ⟨⟨c2, d2, z2, l2⟩, g2, hc2, n2, hd2⟩ := id p2
    simp only at hc1 hd1 hc2 hd2
    subst hc1 hd1 hc2 hd2
    exact concat_meets ⟨_, g1, rfl⟩ ⟨_, g2, rfl⟩ noFill_tuple_add seq_tuple_add PySem.F.slot_tuple_add PySem.F.entry_tuple_add (PySem.F.args_tuple_add_2 _ _)
      (tuple_addW0 a b its.toArray its2.toArray n1 n2 d1 d2 l1 l2 (by simp [e1])) ⟨g1, g2, .ref b, H, I, rfl, q0 hx⟩
  · exact op_catT pins s σ H _ _ v u Q I rx ry ⟨a, b, xs, ys, rfl, rfl, ha, hb, hx, hz, q1 hx, q2 hx⟩
def eqVs : List V → List V → Bool
  | [], [] => true
  | x :: xs, y :: ys => eqV x y && eqVs xs ys
  | _, _ => false
theorem eqVs_len : ∀ {xs ys : List V}, xs.length ≠ ys.length → eqVs xs ys = false
  | [], [], h => absurd rfl h
  | x :: xs, y :: ys, h => by
    have e : xs.length ≠ ys.length := fun z => h (by simp [z])
    simp [eqVs, eqVs_len e]
  | [], _ :: _, _ => rfl
  | _ :: _, [], _ => rfl
def eqAtI (xs ys : List V) (j : Nat) : Bool := match xs[j]?, ys[j]? with | some x, some y => eqV x y | _, _ => false
theorem eqVs_all : ∀ {xs ys : List V}, xs.length = ys.length → (List.range xs.length).all (eqAtI xs ys) = eqVs xs ys
  | [], [], _ => rfl
  | x :: xs, y :: ys, h => by
    have e : xs.length = ys.length := by simpa using h
    rw [List.length_cons, List.range_succ_eq_map, List.all_cons, List.all_map]
    have z : (eqAtI (x :: xs) (y :: ys) ∘ Nat.succ) = eqAtI xs ys := by funext j; simp [eqAtI]
    rw [z, eqVs_all e]
    rfl
  | [], _ :: _, h => by cases h
  | _ :: _, [], h => by cases h
theorem eqAtI_ok {A : Around} {s : Shared} {xs ys : List V} {us ws : List Value} (r1 : Vals xs us) (r2 : Vals ys ws) (f1 : xs.all flatV = true) (f2 : ys.all flatV = true) (j : Nat) (h1 : j < us.toArray.size) (h2 : j < ws.toArray.size) :
    SeqAt.EqAt A s us.toArray[j] ws.toArray[j] (eqAtI xs ys j) := by
  have l1 := r1.length
  have l2 := r2.length
  have k1 : j < xs.length := by rw [l1]; simpa using h1
  have k2 : j < ys.length := by rw [l2]; simpa using h2
  obtain ⟨u, hu, ru⟩ := r1.get (List.getElem?_eq_getElem k1)
  obtain ⟨v, hv, rv⟩ := r2.get (List.getElem?_eq_getElem k2)
  have e1 : us.toArray[j] = u := by
    have z : us[j]? = some (us[j]'(by simpa using h1)) := List.getElem?_eq_getElem _
    rw [z] at hu
    simpa using hu
  have e2 : ws.toArray[j] = v := by
    have z : ws[j]? = some (ws[j]'(by simpa using h2)) := List.getElem?_eq_getElem _
    rw [z] at hv
    simpa using hv
  rw [e1, e2]
  have e3 : eqAtI xs ys j = eqV xs[j] ys[j] := by simp [eqAtI, k1, k2]
  rw [e3]
  exact eqAt_V ru rv (List.all_eq_true.mp f1 _ (List.getElem_mem k1)) (List.all_eq_true.mp f2 _ (List.getElem_mem k2))
def rEqL (K : PySem.W.Frag) : R2 := fun x y H Q => ∃ a b xs ys, x = .ref a ∧ y = .ref b ∧ SqL K H a xs ∧ SqL K H b ys ∧ xs.all flatV = true ∧ ys.all flatV = true ∧ Q (.bl (eqVs xs ys)) H
def rEqT (K : PySem.W.Frag) : R2 := fun x y H Q => ∃ a b xs ys, x = .ref a ∧ y = .ref b ∧ SqT K H a xs ∧ SqT K H b ys ∧ xs.all flatV = true ∧ ys.all flatV = true ∧ Q (.bl (eqVs xs ys)) H
theorem flat_ints : ∀ (ns : List Int), (ns.map V.int).all flatV = true
  | [] => rfl
  | n :: ns => by simp [flatV]
theorem call_isiTT : CallR X (.builtin "isinstance") (fun xs H Q => ∃ a ys, xs = [.ref a, .ty "tuple"] ∧ H a = some (.tup ys) ∧ Q (.bl true) H) := by
  intro pins s σ H xs us Q I r h
  obtain ⟨a, ys, rfl, ha, q⟩ := h
  exact call_isi pins s σ H _ us Q I r ⟨.ref a, "tuple", .type "tuple", true, rfl, .tup ha, kit_type (by decide +kernel), q⟩
end
end L2
namespace L2
open PySem PySem.Spec PyProof.Rows
section
variable {pg : Program} {wd : World} {B : Around} {X0 : Value → Shared → Prop} {s0 : Shared}
theorem nx_tup_item {j t : Addr} {k : Nat} {its : Array Value} {x : Value} {R : Value → Shared → Prop} (p : s0.heap.IsTupleIter j t k) (q : s0.heap.IsTuple t its) (e : its[k]? = some x)
    (f : ∀ h', h'.IsTupleIter j t (k + 1) → Heap.SameBut j s0.heap h' → R x { s0 with heap := h' }) : wpAny (model pg wd) B (Builtin.SmallTypes.nextOf (.ref j)) R X0 s0 := by
  obtain ⟨o, g, c, d⟩ := id p
  obtain ⟨ot, gt, _, nt, dt⟩ := q
  unfold Builtin.SmallTypes.nextOf
  refine wpAny_bind (wpAny_callSpecial?_slot (name := Str.ofString "__next__") p.typeIs F.slot_tuple_iterator_next (wpAny_call_entry F.slot_tuple_iterator_next p.typeIs F.entry_tuple_iterator_next ?_ (F.args_tuple_iterator_next_1 _)))
  show wpAny _ _ (field (.ref j) 0 >>= _) _ _ s0
  refine wpAny_bind (wpAny_field g d (x := .ref t) rfl ?_)
  show wpAny _ _ (if (Value.ref t == Value.none) = true then _ else _) _ _ s0
  rw [if_neg (show ¬ ((Value.ref t == Value.none) = true) from Bool.false_ne_true)]
  show wpAny _ _ (field (.ref j) 1 >>= _) _ _ s0
  refine wpAny_bind (wpAny_field g d (x := .int k 0) rfl ?_)
  show wpAny _ _ (seqItems? (.ref t) >>= _) _ _ s0
  refine wpAny_bind (wpAny_seqItems gt dt ?_)
  simp only [Int.toNat_natCast, e]
  refine wpAny_bind (wpAny_setField g d (by simp) (wpAny_pure ⟨x, rfl, wpAny_pure (f _ ?_ (Heap.SameBut.update ..))⟩))
  exact ⟨_, Heap.get?_update_self _ g (Obj.isFreed_of_fields (Obj.data_mapFields d _)), (Obj.cls_mapFields ..).trans c, by rw [Obj.data_mapFields d]; simp [rawInt]⟩
theorem nx_tup_end {j t : Addr} {k : Nat} {its : Array Value} {R : Value → Shared → Prop} (hh : B.handled = none) (p : s0.heap.IsTupleIter j t k) (q : s0.heap.IsTuple t its) (e : its[k]? = none)
    (f : ∀ h' z, Heap.ExtBut j s0.heap h' → (∃ o, h'.get? z = some o ∧ o.cls = .type "StopIteration") → X0 (.ref z) { s0 with heap := h' }) : wpAny (model pg wd) B (Builtin.SmallTypes.nextOf (.ref j)) R X0 s0 := by
  obtain ⟨o, g, c, d⟩ := id p
  obtain ⟨ot, gt, _, nt, dt⟩ := q
  unfold Builtin.SmallTypes.nextOf
  refine wpAny_bind (wpAny_callSpecial?_slot (name := Str.ofString "__next__") p.typeIs F.slot_tuple_iterator_next (wpAny_call_entry F.slot_tuple_iterator_next p.typeIs F.entry_tuple_iterator_next ?_ (F.args_tuple_iterator_next_1 _)))
  show wpAny _ _ (field (.ref j) 0 >>= _) _ _ s0
  refine wpAny_bind (wpAny_field g d (x := .ref t) rfl ?_)
  show wpAny _ _ (if (Value.ref t == Value.none) = true then _ else _) _ _ s0
  rw [if_neg (show ¬ ((Value.ref t == Value.none) = true) from Bool.false_ne_true)]
  show wpAny _ _ (field (.ref j) 1 >>= _) _ _ s0
  refine wpAny_bind (wpAny_field g d (x := .int k 0) rfl ?_)
  show wpAny _ _ (seqItems? (.ref t) >>= _) _ _ s0
  refine wpAny_bind (wpAny_seqItems gt dt ?_)
  simp only [Int.toNat_natCast, e]
  refine wpAny_bind (wpAny_rule (wpAny_bind (wpAny_setField g d (by simp) ?_)))
  show wpAny _ _ (newExc (.type "StopIteration") [] >>= _) _ _ _
  refine wpAny_bind ?_
  simp only [newExc, newTuple]
  refine wpAny_bind (wpAny_newObj_type ?_ (by size_fits))
  refine wpAny_bind (m := firstArgMember _ _) (wpAny_of_eq (a := Value.none) (by first | rfl | (simp only [firstArgMember]; rfl)) ?_)
  refine wpAny_newObj_type ?_ (by size_fits)
  simp only [raiseNew]
  refine wpAny_bind (wpAny_handled ?_)
  first | rw [show B.in1.handled = none from hh] | rw [hh]
  refine wpAny_bind (wpAny_pure (wpAny_throw ?_))
  exact f _ _ (((Heap.SameBut.update ..).extBut.push _).push _) ⟨_, Heap.get?_push_size _ rfl, rfl⟩
structure Apart5 (z ti ox j1 j2 t1 t2 : Addr) : Prop where
  ti_z : ti ≠ z
  ox_z : ox ≠ z
  j1_z : j1 ≠ z
  j2_z : j2 ≠ z
  ti_ox : ti ≠ ox
  ti_j1 : ti ≠ j1
  ti_j2 : ti ≠ j2
  ox_j1 : ox ≠ j1
  ox_j2 : ox ≠ j2
  j12 : j1 ≠ j2
  t1_z : t1 ≠ z
  t1_ox : t1 ≠ ox
  t1_j1 : t1 ≠ j1
  t1_j2 : t1 ≠ j2
  t2_z : t2 ≠ z
  t2_ox : t2 ≠ ox
  t2_j1 : t2 ≠ j1
  t2_j2 : t2 ≠ j2
def But4 (z ox j1 j2 : Addr) (h h' : Heap) : Prop := ∀ c o, c ≠ z → c ≠ ox → c ≠ j1 → c ≠ j2 → h.get? c = some o → h'.get? c = some o
theorem tupIt_at {h h' : Heap} {j t : Addr} {k : Nat} (p : h.IsTupleIter j t k) (f : ∀ o, h.get? j = some o → h'.get? j = some o) : h'.IsTupleIter j t k := let ⟨o, g, r⟩ := p; ⟨o, f o g, r⟩
theorem tup_at {h h' : Heap} {t : Addr} {its : Array Value} (p : h.IsTuple t its) (f : ∀ o, h.get? t = some o → h'.get? t = some o) : h'.IsTuple t its := let ⟨o, g, r⟩ := p; ⟨o, f o g, r⟩
theorem zipT_item {z ti ox j1 j2 t1 t2 : Addr} {k : Nat} {as bs : Array Value} {x y u v : Value} {R : Option Value → Shared → Prop} (ap : Apart5 z ti ox j1 j2 t1 t2) (hz : IsZip s0.heap z ti ox .none) (hi : IsPair s0.heap ti (.ref j1) (.ref j2)) (ho : IsPair s0.heap ox u v)
    (p1 : s0.heap.IsTupleIter j1 t1 k) (p2 : s0.heap.IsTupleIter j2 t2 k) (q1 : s0.heap.IsTuple t1 as) (q2 : s0.heap.IsTuple t2 bs) (e1 : as[k]? = some x) (e2 : bs[k]? = some y)
    (f : ∀ h', IsZip h' z ti ox (rawInt s0.heap.objs.size) → IsPair h' ox x y → h'.IsTupleIter j1 t1 (k + 1) → h'.IsTupleIter j2 t2 (k + 1) → IsPair h' s0.heap.objs.size x y → But4 z ox j1 j2 s0.heap h' → R (some (.ref s0.heap.objs.size)) { s0 with heap := h' }) :
    wpAny (model pg wd) B (pyNext (.ref z)) R X0 s0 := by
  have ty : s0.TypeIs (.ref z) "zip" := ⟨_, hz, rfl⟩
  unfold pyNext
  refine wpAny_bind (wpAny_attempt (wpAny_callSpecial?_slot (name := Str.ofString "__next__") ty F.slot_zip_next (wpAny_call_entry F.slot_zip_next ty F.entry_zip_next ?_ (F.args_zip_next_1 _))))
  show wpAny _ _ (field (.ref z) 2 >>= _) _ _ _
  refine wpAny_bind (wpAny_field hz rfl (x := .bool false) rfl ?_)
  show wpAny _ _ (field (.ref z) 3 >>= _) _ _ _
  refine wpAny_bind (wpAny_field hz rfl (x := .ref ti) rfl ?_)
  refine wpAny_bind (wpAny_seqItems hi rfl ?_)
  show wpAny _ _ (Builtin.SmallTypes.ownedTupleIsFree (.ref z) >>= _) _ _ _
  refine wpAny_bind ?_
  unfold Builtin.SmallTypes.ownedTupleIsFree
  refine wpAny_bind (wpAny_field hz rfl (x := .none) rfl (wpAny_pure ?_))
  simp only [if_true]
  refine wpAny_bind (wpAny_rule ?_)
  refine wpAny_bind (wpAny_field hz rfl (x := .ref ox) rfl ?_)
  refine wpAny_bind (wpAny_setField_rec hz (by simp) fun m1 zm1 sb1 => ?_)
  have zm1 : IsZip m1 z ti ox .ellipsis := zm1
  refine wpAny_bind ?_
  simp only [List.zipIdx_cons, List.zipIdx_nil, List.forIn_cons, List.forIn_nil]
  refine wpAny_bind (wpAny_bind (wpAny_onRaise ?_))
  show wpAny _ _ (Builtin.SmallTypes.nextOf (.ref j1) >>= _) _ _ _
  refine wpAny_bind (nx_tup_item (tupIt_at p1 fun o g => sb1.extBut _ _ ap.j1_z g) (tup_at q1 fun o g => sb1.extBut _ _ ap.t1_z g) e1 fun m2 pm2 sb2 => wpAny_pure ?_)
  have om2 : IsPair m2 ox u v := sb2.extBut _ _ ap.ox_j1 (sb1.extBut _ _ ap.ox_z ho)
  refine wpAny_bind (wpAny_seqItems om2 rfl ?_)
  refine wpAny_bind (wpAny_updateSeq_pair om2 fun m3 om3 sb3 => ?_)
  have om3 : IsPair m3 ox x v := om3
  refine wpAny_bind (wpAny_letGo (wpAny_pure ?_))
  refine wpAny_bind (wpAny_bind (wpAny_onRaise ?_))
  show wpAny _ _ (Builtin.SmallTypes.nextOf (.ref j2) >>= _) _ _ _
  have to3 : ∀ c o, c ≠ z → c ≠ ox → c ≠ j1 → s0.heap.get? c = some o → m3.get? c = some o := fun c o a1 a2 a3 g => sb3.extBut _ _ a2 (sb2.extBut _ _ a3 (sb1.extBut _ _ a1 g))
  refine wpAny_bind (nx_tup_item (tupIt_at p2 fun o g => to3 _ o ap.j2_z ap.ox_j2.symm ap.j12.symm g) (tup_at q2 fun o g => to3 _ o ap.t2_z ap.t2_ox ap.t2_j1 g) e2 fun m4 pm4 sb4 => wpAny_pure ?_)
  have om4 : IsPair m4 ox x v := sb4.extBut _ _ ap.ox_j2 om3
  refine wpAny_bind (wpAny_seqItems om4 rfl ?_)
  refine wpAny_bind (wpAny_updateSeq_pair om4 fun m5 om5 sb5 => ?_)
  have om5 : IsPair m5 ox x y := om5
  refine wpAny_bind (wpAny_letGo (wpAny_pure (wpAny_pure ?_)))
  refine wpAny_bind (wpAny_seqItems om5 rfl ?_)
  refine wpAny_bind (wpAny_newTuple ?_)
  have sz5 : m5.objs.size = s0.heap.objs.size := by rw [sb5.1, sb4.1, sb3.1, sb2.1, sb1.1]
  have zm5 : IsZip m5 z ti ox .ellipsis := sb5.extBut _ _ ap.ox_z.symm (sb4.extBut _ _ ap.j2_z.symm (sb3.extBut _ _ ap.ox_z.symm (sb2.extBut _ _ ap.j1_z.symm zm1)))
  have to5 : But4 z ox j1 j2 s0.heap m5 := fun c o a1 a2 a3 a4 g => sb5.extBut _ _ a2 (sb4.extBut _ _ a4 (to3 c o a1 a2 a3 g))
  have pj1 : m5.IsTupleIter j1 t1 (k + 1) := tupIt_at pm2 fun o g => sb5.extBut _ _ ap.ox_j1.symm (sb4.extBut _ _ ap.j12 (sb3.extBut _ _ ap.ox_j1.symm g))
  have pj2 : m5.IsTupleIter j2 t2 (k + 1) := tupIt_at pm4 fun o g => sb5.extBut _ _ ap.ox_j2.symm g
  have zlt : z < m5.objs.size := Heap.lt_size zm5
  show wpAny _ _ (Builtin.SmallTypes.ownedTupleHandOut (.ref z) (.ref m5.objs.size) >>= _) _ _ _
  refine wpAny_bind ?_
  unfold Builtin.SmallTypes.ownedTupleHandOut
  have zm6 : IsZip (m5.push { cls := .type "tuple", data := .seq #[x, y] }) z ti ox .ellipsis := Heap.get?_push_of_some _ zm5
  refine wpAny_bind (wpAny_setField_rec zm6 (by simp) fun m7 zm7 sb7 => ?_)
  have zm7 : IsZip m7 z ti ox (rawInt m5.objs.size) := zm7
  refine wpAny_setField_rec zm7 (by simp) fun m8 zm8 sb8 => ?_
  have zm8 : IsZip m8 z ti ox (rawInt m5.objs.size) := zm8
  have to8 : ∀ c o, c ≠ z → m5.get? c = some o → m8.get? c = some o := fun c o a1 g => sb8.extBut _ _ a1 (sb7.extBut _ _ a1 (Heap.get?_push_of_some _ g))
  have np8 : IsPair m8 m5.objs.size x y := sb8.extBut _ _ (Nat.ne_of_gt zlt) (sb7.extBut _ _ (Nat.ne_of_gt zlt) (Heap.get?_push_size _ rfl))
  rw [sz5] at zm8 np8
  refine wpAny_pure ⟨_, rfl, wpAny_pure ?_⟩
  show R (some (.ref m5.objs.size)) _
  rw [sz5]
  exact f m8 zm8 (to8 _ _ ap.ox_z om5) (tupIt_at pj1 fun o g => to8 _ o ap.j1_z g) (tupIt_at pj2 fun o g => to8 _ o ap.j2_z g) np8 fun c o a1 a2 a3 a4 g => to8 c o a1 (to5 c o a1 a2 a3 a4 g)
theorem zipT_end {z ti ox j1 j2 t1 t2 : Addr} {k : Nat} {as bs : Array Value} {u v : Value} {R : Option Value → Shared → Prop} (hh : B.handled = none) (ap : Apart5 z ti ox j1 j2 t1 t2) (hz : IsZip s0.heap z ti ox .none) (hi : IsPair s0.heap ti (.ref j1) (.ref j2)) (ho : IsPair s0.heap ox u v)
    (p1 : s0.heap.IsTupleIter j1 t1 k) (p2 : s0.heap.IsTupleIter j2 t2 k) (q1 : s0.heap.IsTuple t1 as) (q2 : s0.heap.IsTuple t2 bs) (hend : as[k]? = none ∨ bs[k]? = none)
    (f : ∀ h', But4 z ox j1 j2 s0.heap h' → R none { s0 with heap := h' }) : wpAny (model pg wd) B (pyNext (.ref z)) R X0 s0 := by
  have ty : s0.TypeIs (.ref z) "zip" := ⟨_, hz, rfl⟩
  have last : ∀ (h' : Heap) (e : Addr), But4 z ox j1 j2 s0.heap h' → (∃ o, h'.get? e = some o ∧ o.cls = .type "StopIteration") → wpAny (model pg wd) B (do if ← isInstance (.ref e) (.type "StopIteration") then pure none else throw (.ref e)) R X0 { s0 with heap := h' } := fun h' e bt ⟨o, g, c⟩ =>
    wpAny_bind (wpAny_isInstance (T := "StopIteration") (b := true) ⟨o, g, c⟩ isSubtype_stop (wpAny_pure (f _ bt)))
  unfold pyNext
  refine wpAny_bind (wpAny_attempt (wpAny_callSpecial?_slot (name := Str.ofString "__next__") ty F.slot_zip_next (wpAny_call_entry F.slot_zip_next ty F.entry_zip_next ?_ (F.args_zip_next_1 _))))
  show wpAny _ _ (field (.ref z) 2 >>= _) _ _ _
  refine wpAny_bind (wpAny_field hz rfl (x := .bool false) rfl ?_)
  show wpAny _ _ (field (.ref z) 3 >>= _) _ _ _
  refine wpAny_bind (wpAny_field hz rfl (x := .ref ti) rfl ?_)
  refine wpAny_bind (wpAny_seqItems hi rfl ?_)
  show wpAny _ _ (Builtin.SmallTypes.ownedTupleIsFree (.ref z) >>= _) _ _ _
  refine wpAny_bind ?_
  unfold Builtin.SmallTypes.ownedTupleIsFree
  refine wpAny_bind (wpAny_field hz rfl (x := .none) rfl (wpAny_pure ?_))
  simp only [if_true]
  refine wpAny_bind (wpAny_rule ?_)
  refine wpAny_bind (wpAny_field hz rfl (x := .ref ox) rfl ?_)
  refine wpAny_bind (wpAny_setField_rec hz (by simp) fun m1 zm1 sb1 => ?_)
  have zm1 : IsZip m1 z ti ox .ellipsis := zm1
  refine wpAny_bind ?_
  simp only [List.zipIdx_cons, List.zipIdx_nil, List.forIn_cons, List.forIn_nil]
  refine wpAny_bind (wpAny_bind (wpAny_onRaise ?_))
  show wpAny _ _ (Builtin.SmallTypes.nextOf (.ref j1) >>= _) _ _ _
  cases e1 : as[k]? with
  | none =>
    refine wpAny_bind (nx_tup_end hh (tupIt_at p1 fun o g => sb1.extBut _ _ ap.j1_z g) (tup_at q1 fun o g => sb1.extBut _ _ ap.t1_z g) e1 fun m2 e xb he => ?_)
    obtain ⟨oe, ge, ce⟩ := he
    have zm2 : IsZip m2 z ti ox .ellipsis := xb _ _ ap.j1_z.symm zm1
    have ez : e ≠ z := fun q => by subst q; rw [zm2] at ge; cases ge; simp at ce
    exact wpAny_setField_rec zm2 (by simp) fun m3 _ sb3 => last m3 e (fun c o a1 _ a3 _ g => sb3.extBut _ _ a1 (xb _ _ a3 (sb1.extBut _ _ a1 g))) ⟨oe, sb3.extBut _ _ ez ge, ce⟩
  | some x =>
    have e2 : bs[k]? = none := by rcases hend with q | q; rw [e1] at q; cases q; exact q
    refine wpAny_bind (nx_tup_item (tupIt_at p1 fun o g => sb1.extBut _ _ ap.j1_z g) (tup_at q1 fun o g => sb1.extBut _ _ ap.t1_z g) e1 fun m2 pm2 sb2 => wpAny_pure ?_)
    have om2 : IsPair m2 ox u v := sb2.extBut _ _ ap.ox_j1 (sb1.extBut _ _ ap.ox_z ho)
    refine wpAny_bind (wpAny_seqItems om2 rfl ?_)
    refine wpAny_bind (wpAny_updateSeq_pair om2 fun m3 om3 sb3 => ?_)
    refine wpAny_bind (wpAny_letGo (wpAny_pure ?_))
    refine wpAny_bind (wpAny_bind (wpAny_onRaise ?_))
    show wpAny _ _ (Builtin.SmallTypes.nextOf (.ref j2) >>= _) _ _ _
    have to3 : ∀ c o, c ≠ z → c ≠ ox → c ≠ j1 → s0.heap.get? c = some o → m3.get? c = some o := fun c o a1 a2 a3 g => sb3.extBut _ _ a2 (sb2.extBut _ _ a3 (sb1.extBut _ _ a1 g))
    refine wpAny_bind (nx_tup_end hh (tupIt_at p2 fun o g => to3 _ o ap.j2_z ap.ox_j2.symm ap.j12.symm g) (tup_at q2 fun o g => to3 _ o ap.t2_z ap.t2_ox ap.t2_j1 g) e2 fun m4 e xb he => ?_)
    obtain ⟨oe, ge, ce⟩ := he
    have zm4 : IsZip m4 z ti ox .ellipsis := xb _ _ ap.j2_z.symm (sb3.extBut _ _ ap.ox_z.symm (sb2.extBut _ _ ap.j1_z.symm zm1))
    have ez : e ≠ z := fun q => by subst q; rw [zm4] at ge; cases ge; simp at ce
    exact wpAny_setField_rec zm4 (by simp) fun m5 _ sb5 => last m5 e (fun c o a1 a2 a3 a4 g => sb5.extBut _ _ a1 (xb _ _ a4 (to3 c o a1 a2 a3 g))) ⟨oe, sb5.extBut _ _ ez ge, ce⟩
end
end L2
namespace L2
open PySem PySem.Spec PyProof.Rows
theorem Inv.turnedL {X : Cx} {pins : List (Addr × Obj)} {σ : St} {H : Hp} {s : Shared} {h' : Heap} {t' : Nat} {fl : List Addr} (I : Inv X pins σ H s) (kk : ∀ b o, b ∉ fl → s.heap.get? b = some o → h'.get? b = some o) (fo : ∀ b ∈ fl, FpOk X pins H b) : Inv X pins σ H { s with heap := h', toks := t' } := by
  have out : ∀ b u, H b = some u → b ∉ fl := fun b u e z => by rw [(fo b z).1] at e; cases e
  refine I.step (g' := s.gens) (d' := s.drawn) (ch := fl) (fun b hb => ?_) (fun b o _ _ hc e _ => kk b o hc e) (fun b o _ _ hc e _ => ⟨o.slots, kk b o hc e⟩) (fun _ _ _ _ q => q)
    (fun b o hc e => ⟨o, kk b o hc e⟩) (fun _ _ e => e) (fun _ _ _ e => e) (fun b ps e => ⟨#[], by rw [e]; simp⟩) (fun m hm => ?_) (fun b u e => ?_) I.bare
  · obtain ⟨_, f1, _, f3, f4, f5⟩ := fo b hb
    exact ⟨f3, f1, f4, f5⟩
  · obtain ⟨o, es, ep, ho, r⟩ := hm
    exact ⟨o, es, ep, kk _ o (fun z => (fo _ z).2.1 rfl) ho, r⟩
  · refine (I.hok b u e).stay (fun c v hc q => kk c v ?_ q) (fun _ q => q) fun _ _ q => q
    rcases hc with z | z
    · rw [z]; exact out b u e
    · exact out c _ z
def Itz (K : PySem.W.Frag) (a b : Addr) : It := ⟨fun i H => ∃ xs ys x y, SqT K H a xs ∧ SqT K H b ys ∧ xs[i]? = some x ∧ ys[i]? = some y,
  fun i H v H' => ∃ T x y, v = .ref T ∧ H T = none ∧ H' = upd H T (.tup [x, y]) ∧ ∀ xs ys, SqT K H a xs → SqT K H b ys → xs[i]? = some x ∧ ys[i]? = some y, fun i H => ∃ xs ys, SqT K H a xs ∧ SqT K H b ys ∧ (xs.length ≤ i ∨ ys.length ≤ i)⟩
theorem turn_zip {P : Program} {w : World} {K : PySem.W.Frag} {es : List Expr} {x1 : Nat} {pp : Pos} {a b z ti ox j1 j2 : Addr} (ap : Apart5 z ti ox j1 j2 a b) :
    Turn P w K (.Tuple es x1 pp) (Itz K a b) [z, ti, ox, j1, j2] z (fun i h => IsZip h z ti ox .none ∧ IsPair h ti (.ref j1) (.ref j2) ∧ (∃ u v, IsPair h ox u v) ∧ h.IsTupleIter j1 a i ∧ h.IsTupleIter j2 b i) where
  mem := by simp
  obj := fun i h q c hc => by
    obtain ⟨q1, q2, ⟨u, v, q3⟩, ⟨o4, g4, _, d4⟩, ⟨o5, g5, _, d5⟩⟩ := q
    simp only [List.mem_cons, List.not_mem_nil, or_false] at hc
    rcases hc with rfl | rfl | rfl | rfl | rfl
    · exact ⟨_, q1, fun v z => nomatch z⟩
    · exact ⟨_, q2, fun v z => nomatch z⟩
    · exact ⟨_, q3, fun v z => nomatch z⟩
    · exact ⟨_, g4, fun v z => by rw [d4] at z; cases z⟩
    · exact ⟨_, g5, fun v z => by rw [d5] at z; cases z⟩
  keep := fun i h h' q k => by
    obtain ⟨q1, q2, ⟨u, v, q3⟩, q4, q5⟩ := q
    exact ⟨k _ (by simp) _ q1, k _ (by simp) _ q2, ⟨u, v, k _ (by simp) _ q3⟩, tupIt_at q4 fun o g => k _ (by simp) o g, tupIt_at q5 fun o g => k _ (by simp) o g⟩
  item := by
    intro X hP hw hK hc i pins s σ H E I hf st hg
    subst hP hw hK
    obtain ⟨xs, ys, x, y, hq1, hq2, hx, hy⟩ := hg
    obtain ⟨q1, q2, ⟨u, v, q3⟩, q4, q5⟩ := st
    obtain ⟨as, ra, pa, za⟩ := I.tuple hq1
    obtain ⟨bs, rb, pb, zb⟩ := I.tuple hq2
    obtain ⟨ux, hux, rux⟩ := ra.get hx
    obtain ⟨uy, huy, ruy⟩ := rb.get hy
    refine zipT_item ap q1 q2 q3 q4 q5 (show s.heap.IsTuple a as.toArray from pa) (show s.heap.IsTuple b bs.toArray from pb) (x := ux) (y := uy) (by simpa using hux) (by simpa using huy) fun h' zz oo p1' p2' np bt => ?_
    have I1 : Inv X pins σ H { s with heap := h' } := I.turnedL (t' := s.toks) (fl := [z, ti, ox, j1, j2]) (fun c o hc e => by
      simp only [List.mem_cons, List.not_mem_nil, or_false, not_or] at hc
      exact bt c o hc.1 hc.2.2.1 hc.2.2.2.1 hc.2.2.2.2 e) hf
    obtain ⟨f0, f1, f2, f3, f4, f5⟩ := I.fpOk (Nat.le_refl s.heap.objs.size) (I.hok.fresh (Nat.le_refl _))
    have n0 : X.s₀.heap.get? s.heap.objs.size = none := by
      cases q : X.s₀.heap.get? s.heap.objs.size with
      | none => rfl
      | some o => exact absurd (Nat.lt_of_lt_of_le (Heap.lt_size q) I.sz) (Nat.lt_irrefl _)
    have I2 : Inv X pins σ (upd H s.heap.objs.size (.tup [x, y])) { s with heap := h' } := I1.track f0 ⟨small (by simp), [ux, uy], .cons rux (.cons ruy .nil), ⟨_, np, rfl, _, rfl⟩⟩ f1 f4 f5 n0
    have lt : ∀ {c o}, s.heap.get? c = some o → c ≠ s.heap.objs.size := fun e => Nat.ne_of_lt (Heap.lt_size e)
    have hzT : z ≠ s.heap.objs.size := lt q1
    have ti2 : IsPair h' ti (.ref j1) (.ref j2) := bt _ _ ap.ti_z ap.ti_ox ap.ti_j1 ap.ti_j2 q2
    obtain ⟨e0, e1, e2, e3, e4, e5⟩ := hf z (by simp)
    refine ⟨_, rfl, wpAny_letOwnedTupleGo_zip zz fun h2 z2 sb => ?_⟩
    have I3 : Inv X pins σ (upd H s.heap.objs.size (.tup [x, y])) { s with heap := h2 } := Inv.turned (s := { s with heap := h' }) (h' := h2) (t' := s.toks) (it := z) I2 (fun c o hc e => sb.extBut _ _ hc e) (by rw [upd_ne hzT]; exact e0) e1 e3 e4 e5
    refine ⟨.ref s.heap.objs.size, _, I3, rfl, ⟨_, x, y, rfl, f0, rfl, fun xs' ys' k1 k2 => ?_⟩, ⟨z2, sb.extBut _ _ ap.ti_z ti2, ⟨_, _, sb.extBut _ _ ap.ox_z oo⟩, tupIt_at p1' fun o g => sb.extBut _ _ ap.j1_z g, tupIt_at p2' fun o g => sb.extBut _ _ ap.j2_z g⟩, fun c hc => ?_⟩
    · rw [I.tuple_inj k1 hq1, I.tuple_inj k2 hq2]; exact ⟨hx, hy⟩
    · have cT : c ≠ s.heap.objs.size := by
        obtain ⟨o4, g4, _⟩ := q4
        obtain ⟨o5, g5, _⟩ := q5
        simp only [List.mem_cons, List.not_mem_nil, or_false] at hc
        rcases hc with rfl | rfl | rfl | rfl | rfl
        · exact hzT
        · exact lt q2
        · exact lt q3
        · exact lt g4
        · exact lt g5
      rw [upd_ne cT]; exact (hf c hc).1
  done := by
    intro X hP hw hK hc i pins s σ H E I hf st hg
    subst hP hw hK
    obtain ⟨xs, ys, hq1, hq2, hx⟩ := hg
    obtain ⟨q1, q2, ⟨u, v, q3⟩, q4, q5⟩ := st
    obtain ⟨as, ra, pa, za⟩ := I.tuple hq1
    obtain ⟨bs, rb, pb, zb⟩ := I.tuple hq2
    have la := ra.length
    have lb := rb.length
    refine zipT_end (I.ok.hd hc) ap q1 q2 q3 q4 q5 (show s.heap.IsTuple a as.toArray from pa) (show s.heap.IsTuple b bs.toArray from pb) (by rcases hx with q | q; exact .inl (by simp; omega); exact .inr (by simp; omega)) fun h' bt => ⟨rfl, ?_⟩
    exact I.turnedL (t' := s.toks) (fl := [z, ti, ox, j1, j2]) (fun c o hc e => by
      simp only [List.mem_cons, List.not_mem_nil, or_false, not_or] at hc
      exact bt c o hc.1 hc.2.2.1 hc.2.2.2.1 hc.2.2.2.2 e) hf
  self := fun _ _ _ _ _ st h => wpAny_pyIter_zip st.1 h
abbrev zt1 (h : Heap) (a : Addr) : Heap := h.push { cls := .type "tuple_iterator", data := .fields #[.ref a, .int 0 0] }
abbrev zt2 (h : Heap) (a b : Addr) : Heap := (zt1 h a).push { cls := .type "tuple_iterator", data := .fields #[.ref b, .int 0 0] }
abbrev zt3 (h : Heap) (a b : Addr) : Heap := (zt2 h a b).push { cls := .type "tuple", data := .seq #[.ref h.objs.size, .ref (zt1 h a).objs.size] }
abbrev zt4 (h : Heap) (a b : Addr) : Heap := (zt3 h a b).push { cls := .type "tuple", data := .seq #[.none, .none] }
abbrev zt5 (h : Heap) (a b : Addr) : Heap := (zt4 h a b).push { cls := .type "zip", data := .fields #[.none, .bool false, .bool false, .ref (zt2 h a b).objs.size, .ref (zt3 h a b).objs.size] }
theorem zipT_new (a b : Addr) (as bs : Array Value) : Meets (Builtin.«zip.__new__» ⟨[.type "zip", .ref a, .ref b], []⟩) (fun _ R s => s.heap.IsTuple a as ∧ s.heap.IsTuple b bs ∧ R (.ok (.ret (.ref (zt4 s.heap a b).objs.size))) { s with heap := zt5 s.heap a b }) :=
  .of_wp fun prog w A R s h => by
    obtain ⟨hp, g, d, tk, os⟩ := s
    obtain ⟨ha, hb, h⟩ := h
    have q0 := sub_zip
    have q1 : Heap.IsTuple (Shared.heap ⟨hp, g, d, tk, os⟩) a as := ha
    have q2 : Heap.IsTuple (Shared.heap ⟨hp.push { cls := .type "tuple_iterator", data := .fields #[.ref a, .int 0 0] }, g, d, tk, os⟩) b bs := tup_at hb fun o e => Heap.get?_push_of_some _ e
    wp_walk using wpAny_pyIter_tuple q1, wpAny_pyIter_tuple q2
    exact ⟨_, rfl, h⟩
theorem zipT_call {pg : Program} {wd : World} {B : Around} {X0 : Value → Shared → Prop} {s0 : Shared} {a b : Addr} {as bs : Array Value} {R : Value → Shared → Prop} (ha : s0.heap.IsTuple a as) (hb : s0.heap.IsTuple b bs)
    (f : ∀ h', IsZip h' (s0.heap.objs.size + 4) (s0.heap.objs.size + 2) (s0.heap.objs.size + 3) .none → IsPair h' (s0.heap.objs.size + 2) (.ref s0.heap.objs.size) (.ref (s0.heap.objs.size + 1)) → IsPair h' (s0.heap.objs.size + 3) .none .none →
      h'.IsTupleIter s0.heap.objs.size a 0 → h'.IsTupleIter (s0.heap.objs.size + 1) b 0 → (∀ c o, s0.heap.get? c = some o → h'.get? c = some o) → R (.ref (s0.heap.objs.size + 4)) { s0 with heap := h' }) :
    wpAny (model pg wd) B (call (.type "zip") [.ref a, .ref b]) R X0 s0 := by
  refine callType_new F.called_zip (by decide) (F.typeCall_zip_2 _ _) (F.newCall_zip_2 _ _) (fun ob => F.args_object_init_3 ob _ _) F.entry_zip_new (zipT_new a b as bs) ⟨ha, hb, ?_⟩
  have n1 : (zt1 s0.heap a).objs.size = s0.heap.objs.size + 1 := Heap.size_push ..
  have n2 : (zt2 s0.heap a b).objs.size = s0.heap.objs.size + 2 := by rw [Heap.size_push, n1]
  have n3 : (zt3 s0.heap a b).objs.size = s0.heap.objs.size + 3 := by rw [Heap.size_push, n2]
  have n4 : (zt4 s0.heap a b).objs.size = s0.heap.objs.size + 4 := by rw [Heap.size_push, n3]
  have g5 : (zt5 s0.heap a b).get? (zt4 s0.heap a b).objs.size = some _ := Heap.get?_push_size _ rfl
  have g4 : (zt5 s0.heap a b).get? (zt3 s0.heap a b).objs.size = some _ := Heap.get?_push_of_some _ (Heap.get?_push_size _ rfl)
  have g3 : (zt5 s0.heap a b).get? (zt2 s0.heap a b).objs.size = some _ := Heap.get?_push_of_some _ (Heap.get?_push_of_some _ (Heap.get?_push_size _ rfl))
  have g2 : (zt5 s0.heap a b).get? (zt1 s0.heap a).objs.size = some _ := Heap.get?_push_of_some _ (Heap.get?_push_of_some _ (Heap.get?_push_of_some _ (Heap.get?_push_size _ rfl)))
  have g1 : (zt5 s0.heap a b).get? s0.heap.objs.size = some _ := Heap.get?_push_of_some _ (Heap.get?_push_of_some _ (Heap.get?_push_of_some _ (Heap.get?_push_of_some _ (Heap.get?_push_size _ rfl))))
  show _ ∧ _
  rw [n2, n3, n4] at g5
  rw [n1, n2] at g3
  rw [n3] at g4
  rw [n1] at g2
  rw [n4]
  exact ⟨⟨_, g5, rfl⟩, f _ g5 g3 g4 ⟨_, g1, rfl, rfl⟩ ⟨_, g2, rfl, rfl⟩ fun c o q => Heap.get?_push_of_some _ (Heap.get?_push_of_some _ (Heap.get?_push_of_some _ (Heap.get?_push_of_some _ (Heap.get?_push_of_some _ q))))⟩
theorem apart_of (n a b : Nat) (ha : a < n) (hb : b < n) : Apart5 (n + 4) (n + 2) (n + 3) n (n + 1) a b := by
  constructor <;> first | exact Nat.ne_of_lt (by omega) | exact Nat.ne_of_gt (by omega)
section
variable {X : Cx} {es : List Expr} {x1 : Nat} {pp : Pos}
def iZip (K : PySem.W.Frag) (ta : TA) : TI := fun σ H R => ta σ H fun vs H1 => ∃ a b xs ys, vs = [.ref a, .ref b] ∧ SqT K H1 a xs ∧ SqT K H1 b ys ∧ R (Itz K a b) H1
theorem pi_zip {e1 e2 : Expr} {ta : TA} {p pos : Pos} (hg : Gl X "zip") (hm : X.mg "zip" = none) (ha : PA X [e1, e2] ta) (hs : starEach [e1, e2] X.env = [(false, eval e1 X.env), (false, eval e2 X.env)] := by rfl) (hs2 : starEach [e2] X.env = [(false, eval e2 X.env)] := by rfl) :
    PI X (.Tuple es x1 pp) (.Call (.Name "zip" p) [e1, e2] [] pos) (iZip X.K ta) := by
  intro pins s σ H R I h
  have hA := ha pos pins s σ H _ I h
  refine Call_ (ld_blt I hg hm boot_zip (PyProof.Rows.callWith_type1 (thn hA fun us s1 ⟨vs, H1, I1, r1, q1⟩ => ?_) (by rw [hs, hs2]) (by rw [hs2]; rfl)))
  obtain ⟨a, b, xs, ys, rfl, ha, hb, q⟩ := q1
  obtain ⟨u, u', rfl, ra, rb⟩ := vals2 r1
  cases (show u = Value.ref a from ra)
  cases (show u' = Value.ref b from rb)
  obtain ⟨as, va, pa, za⟩ := I1.tuple ha
  obtain ⟨bs, vb, pb, zb⟩ := I1.tuple hb
  have al : a < s1.heap.objs.size := by obtain ⟨o, g, _⟩ := pa; exact Heap.lt_size g
  have bl : b < s1.heap.objs.size := by obtain ⟨o, g, _⟩ := pb; exact Heap.lt_size g
  refine zipT_call (show s1.heap.IsTuple a as.toArray from pa) (show s1.heap.IsTuple b bs.toArray from pb) fun h' w1 w2 w3 w4 w5 kk => ?_
  have I2 : Inv X pins σ H1 { s1 with heap := h' } := I1.kept (t' := s1.toks) kk
  have ap := apart_of s1.heap.objs.size a b al bl
  refine wpAny_pyIter_zip w1 ⟨s1.heap.objs.size + 4, [s1.heap.objs.size + 4, s1.heap.objs.size + 2, s1.heap.objs.size + 3, s1.heap.objs.size, s1.heap.objs.size + 1], _, _, H1, rfl, I2, turn_zip ap, ⟨w1, w2, ⟨_, _, w3⟩, w4, w5⟩, fun c hc => ?_, q⟩
  have ge : s1.heap.objs.size ≤ c := by
    simp only [List.mem_cons, List.not_mem_nil, or_false] at hc
    rcases hc with rfl | rfl | rfl | rfl | rfl <;> omega
  exact I1.fpOk ge (I1.hok.fresh ge)
end
def LoopZ (K : PySem.W.Frag) (g : TG) (tb : TS) (D : Ends) (σ : St) (vs : List V) (H1 : Hp) : Prop := ∃ a b xs ys, vs = [.ref a, .ref b] ∧ SqT K H1 a xs ∧ SqT K H1 b ys ∧ ∃ W : Nat → Nat → St → Hp → Prop, (∃ m, W 0 m σ H1) ∧ ∀ i m σ H, W i m σ H →
  ((Itz K a b).stop i H ∧ D.nx σ H) ∨ ((Itz K a b).go i H ∧ ∃ N : St → Hp → Prop, (∀ σ' H', N σ' H' → ∃ m', m' < m ∧ W (i + 1) m' σ' H') ∧ ∀ x H', (Itz K a b).yld i H x H' → g x σ H' fun σ2 H2 => tb { D with nx := N, ct := N, bk := D.nx } σ2 H2)
theorem for_eqZ {K : PySem.W.Frag} {ta : TA} {g : TG} {tb : TS} {D : Ends} {σ : St} {H : Hp} : tFor (iZip K ta) g tb D σ H = ta σ H fun vs H1 => LoopZ K g tb D σ vs H1 := rfl
theorem LoopZ.mk {K : PySem.W.Frag} {a b : Addr} {xs ys : List V} {g : TG} {tb : TS} {D : Ends} {σ : St} {H : Hp} (n : Nat) (hn : n = min xs.length ys.length) (h1 : SqT K H a xs) (h2 : SqT K H b ys) (Pv : Nat → St → Hp → Prop) (h0 : Pv 0 σ H) (hl : ∀ i σ H, i ≤ n → Pv i σ H → SqT K H a xs ∧ SqT K H b ys)
    (hs : ∀ i x y σ H T, i < n → xs[i]? = some x → ys[i]? = some y → Pv i σ H → H T = none → g (.ref T) σ (upd H T (.tup [x, y])) fun σ2 H2 => tb { D with nx := Pv (i + 1), ct := Pv (i + 1), bk := D.nx } σ2 H2) (hd : ∀ σ H, Pv n σ H → D.nx σ H) :
    LoopZ K g tb D σ [.ref a, .ref b] H := by
  subst hn
  refine ⟨a, b, xs, ys, rfl, h1, h2, fun i m σ H => m = min xs.length ys.length - i ∧ i ≤ min xs.length ys.length ∧ Pv i σ H, ⟨_, rfl, Nat.zero_le _, h0⟩, ?_⟩
  rintro i m σ H ⟨rfl, hi, p⟩
  obtain ⟨k1, k2⟩ := hl i σ H hi p
  by_cases hlt : i < min xs.length ys.length
  · have l1 : i < xs.length := by omega
    have l2 : i < ys.length := by omega
    refine .inr ⟨⟨xs, ys, _, _, k1, k2, List.getElem?_eq_getElem l1, List.getElem?_eq_getElem l2⟩, Pv (i + 1), fun σ' H' p' => ⟨min xs.length ys.length - (i + 1), by omega, rfl, hlt, p'⟩, fun v H' yy => ?_⟩
    obtain ⟨T, x, y, rfl, hT, rfl, ex⟩ := yy
    obtain ⟨ex1, ex2⟩ := ex xs ys k1 k2
    exact hs i x y σ H T hlt ex1 ex2 p hT
  · have e : i = min xs.length ys.length := by omega
    exact .inl ⟨⟨xs, ys, k1, k2, by omega⟩, hd σ H (e ▸ p)⟩
def CompZ (K : PySem.W.Frag) (k : Nat) (js : List Nat) (g : TG) (te : TE) (σ : St) (vs : List V) (H1 : Hp) (Q : VK) : Prop := ∃ a b xs ys, vs = [.ref a, .ref b] ∧ SqT K H1 a xs ∧ SqT K H1 b ys ∧ ∃ W : Nat → Nat → List V → St → Hp → Prop, (∃ m, W 0 m [] (compSt k js σ) H1) ∧ ∀ i m zs σ' H', W i m zs σ' H' →
    ((Itz K a b).stop i H' ∧ ∀ p, H' p = none → Q (.ref p) (upd H' p (.lst zs))) ∨
    ((Itz K a b).go i H' ∧ zs.length < sizeLine ∧ ∃ N : List V → St → Hp → Prop, (∀ zs σ2 H2, N zs σ2 H2 → ∃ m', m' < m ∧ W (i + 1) m' zs σ2 H2) ∧ ∀ x H2, (Itz K a b).yld i H' x H2 → g x σ' H2 fun σ3 H3 => te σ3 H3 fun v H4 => N (zs ++ [v]) σ3 H4)
theorem comp_eqZ {K : PySem.W.Frag} {k : Nat} {js : List Nat} {ta : TA} {g : TG} {te : TE} {σ : St} {H : Hp} {Q : VK} : tComp (iZip K ta) k js g te σ H Q = ta σ H fun vs H1 => CompZ K k js g te σ vs H1 Q := rfl
theorem CompZ.mk {K : PySem.W.Frag} {a b : Addr} {xs ys : List V} {k : Nat} {js : List Nat} {g : TG} {te : TE} {Q : VK} {σ : St} {H : Hp} (n : Nat) (hn : n = min xs.length ys.length) (h1 : SqT K H a xs) (h2 : SqT K H b ys) (Pv : Nat → List V → St → Hp → Prop) (h0 : Pv 0 [] (compSt k js σ) H) (hl : ∀ i zs σ H, i ≤ n → Pv i zs σ H → SqT K H a xs ∧ SqT K H b ys)
    (hs : ∀ i x y zs σ H T, i < n → xs[i]? = some x → ys[i]? = some y → Pv i zs σ H → H T = none → zs.length < sizeLine ∧ g (.ref T) σ (upd H T (.tup [x, y])) fun σ3 H3 => te σ3 H3 fun v H4 => Pv (i + 1) (zs ++ [v]) σ3 H4) (hz : ∀ zs σ H, Pv n zs σ H → ∀ p, H p = none → Q (.ref p) (upd H p (.lst zs))) (hlen : ∀ i zs σ H, Pv i zs σ H → zs.length < sizeLine) :
    CompZ K k js g te σ [.ref a, .ref b] H Q := by
  subst hn
  refine ⟨a, b, xs, ys, rfl, h1, h2, fun i m zs σ H => m = min xs.length ys.length - i ∧ i ≤ min xs.length ys.length ∧ Pv i zs σ H, ⟨_, rfl, Nat.zero_le _, h0⟩, ?_⟩
  rintro i m zs σ H ⟨rfl, hi, p⟩
  obtain ⟨k1, k2⟩ := hl i zs σ H hi p
  by_cases hlt : i < min xs.length ys.length
  · have l1 : i < xs.length := by omega
    have l2 : i < ys.length := by omega
    refine .inr ⟨⟨xs, ys, _, _, k1, k2, List.getElem?_eq_getElem l1, List.getElem?_eq_getElem l2⟩, hlen _ _ _ _ p, Pv (i + 1), fun zs' σ' H' p' => ⟨min xs.length ys.length - (i + 1), by omega, rfl, hlt, p'⟩, fun v H' yy => ?_⟩
    obtain ⟨T, x, y, rfl, hT, rfl, ex⟩ := yy
    obtain ⟨ex1, ex2⟩ := ex xs ys k1 k2
    exact (hs i x y zs σ H T hlt ex1 ex2 p hT).2
  · have e : i = min xs.length ys.length := by omega
    exact .inl ⟨⟨xs, ys, k1, k2, by omega⟩, hz zs σ H (e ▸ p)⟩
end L2
namespace L2
open PySem PySem.Spec PyProof.Rows
section
variable {X : Cx}
theorem call_sumL (hc : X.calm = true) : CallR X (.builtin "sum") (fun xs H Q => ∃ (a : Addr) (ns : List Int), xs = [.ref a] ∧ SqL X.K H a (ns.map V.int) ∧ Q (.int ns.sum) H) := by
  intro pins s σ H xs us Q I r h
  obtain ⟨a, ns, rfl, hq, q⟩ := h
  obtain ⟨u, rfl, ru⟩ := vals1 r
  cases (show u = Value.ref a from ru)
  obtain ⟨its, rv, pl, hz⟩ := I.list hq
  have hi := intsAre_of rv
  have hn := hi.numsOf
  obtain ⟨ps, e⟩ := hi.allInts.items
  have hl : s.heap.IsList a (intItems ps) := e ▸ pl.isList
  refine sum_intListG (I.ok.hd hc) hl fun h' tk t' kk => ?_
  have e2 : preSum (numAt ps) ps.size = ns.sum := by
    rw [preSum_eq, List.take_of_length_le (by simp), ← nums_intItems, ← e]
    exact congrArg List.sum hn
  rw [e2]
  exact ⟨.int ns.sum, H, I.kept kk, ⟨t', rfl⟩, q⟩
def Its (lo st : Int) (n : Nat) : It := ⟨fun i _ => i < n, fun i H x H' => H' = H ∧ x = .int (lo + i * st), fun i _ => n ≤ i⟩
def iRng3 (ta : TA) : TI := fun σ H R => ta σ H fun vs H1 => ∃ i j c : Int, vs = [.int i, .int j, .int c] ∧ (c ≠ 0 ∧ c.natAbs < 1073741824 ∧ Builtin.Range.small i j c = true) ∧ R (Its i c (Builtin.Range.rangeSize i j c).toNat) H1
end
def LoopS (lo st : Int) (n : Nat) (g : TG) (tb : TS) (D : Ends) (σ : St) (H1 : Hp) : Prop := ∃ W : Nat → Nat → St → Hp → Prop, (∃ m, W 0 m σ H1) ∧ ∀ i m σ H, W i m σ H →
  ((Its lo st n).stop i H ∧ D.nx σ H) ∨ ((Its lo st n).go i H ∧ ∃ N : St → Hp → Prop, (∀ σ' H', N σ' H' → ∃ m', m' < m ∧ W (i + 1) m' σ' H') ∧ ∀ x H', (Its lo st n).yld i H x H' → g x σ H' fun σ2 H2 => tb { D with nx := N, ct := N, bk := D.nx } σ2 H2)
theorem for_eqR3 {ta : TA} {g : TG} {tb : TS} {D : Ends} {σ : St} {H : Hp} : tFor (iRng3 ta) g tb D σ H = ta σ H fun vs H1 => ∃ i j c : Int, vs = [.int i, .int j, .int c] ∧ (c ≠ 0 ∧ c.natAbs < 1073741824 ∧ Builtin.Range.small i j c = true) ∧ LoopS i c (Builtin.Range.rangeSize i j c).toNat g tb D σ H1 := rfl
theorem LoopS.mk {lo st : Int} {n : Nat} {g : TG} {tb : TS} {D : Ends} {σ : St} {H : Hp} (Pv : Nat → St → Hp → Prop) (h0 : Pv 0 σ H)
    (hs : ∀ i σ H, i < n → Pv i σ H → g (.int (lo + i * st)) σ H fun σ2 H2 => tb { D with nx := Pv (i + 1), ct := Pv (i + 1), bk := D.nx } σ2 H2) (hd : ∀ σ H, Pv n σ H → D.nx σ H) : LoopS lo st n g tb D σ H := by
  refine ⟨fun i m σ H => m = n - i ∧ i ≤ n ∧ Pv i σ H, ⟨_, rfl, Nat.zero_le _, h0⟩, ?_⟩
  rintro i m σ H ⟨rfl, hi, p⟩
  by_cases hlt : i < n
  · refine .inr ⟨hlt, Pv (i + 1), fun σ' H' p' => ⟨n - (i + 1), by omega, rfl, hlt, p'⟩, fun v H' yy => ?_⟩
    obtain ⟨rfl, rfl⟩ := yy
    exact hs i σ _ hlt p
  · have e : i = n := by omega
    exact .inl ⟨(show n ≤ i by omega), hd σ H (e ▸ p)⟩
def CompS (lo st : Int) (n k : Nat) (js : List Nat) (g : TG) (te : TE) (σ : St) (H1 : Hp) (Q : VK) : Prop := ∃ W : Nat → Nat → List V → St → Hp → Prop, (∃ m, W 0 m [] (compSt k js σ) H1) ∧ ∀ i m ys σ' H', W i m ys σ' H' →
    ((Its lo st n).stop i H' ∧ ∀ p, H' p = none → Q (.ref p) (upd H' p (.lst ys))) ∨
    ((Its lo st n).go i H' ∧ ys.length < sizeLine ∧ ∃ N : List V → St → Hp → Prop, (∀ zs σ2 H2, N zs σ2 H2 → ∃ m', m' < m ∧ W (i + 1) m' zs σ2 H2) ∧ ∀ x H2, (Its lo st n).yld i H' x H2 → g x σ' H2 fun σ3 H3 => te σ3 H3 fun v H4 => N (ys ++ [v]) σ3 H4)
theorem comp_eqR3 {k : Nat} {js : List Nat} {ta : TA} {g : TG} {te : TE} {σ : St} {H : Hp} {Q : VK} : tComp (iRng3 ta) k js g te σ H Q = ta σ H fun vs H1 => ∃ i j c : Int, vs = [.int i, .int j, .int c] ∧ (c ≠ 0 ∧ c.natAbs < 1073741824 ∧ Builtin.Range.small i j c = true) ∧ CompS i c (Builtin.Range.rangeSize i j c).toNat k js g te σ H1 Q := rfl
theorem CompS.mk {lo st : Int} {n k : Nat} {js : List Nat} {g : TG} {te : TE} {Q : VK} {σ : St} {H : Hp} (Pv : Nat → List V → St → Hp → Prop) (h0 : Pv 0 [] (compSt k js σ) H) (hlen : ∀ i ys σ H, Pv i ys σ H → ys.length < sizeLine)
    (hs : ∀ i ys σ H, i < n → Pv i ys σ H → g (.int (lo + i * st)) σ H fun σ3 H3 => te σ3 H3 fun v H4 => Pv (i + 1) (ys ++ [v]) σ3 H4) (hd : ∀ ys σ H, Pv n ys σ H → ∀ p, H p = none → Q (.ref p) (upd H p (.lst ys))) : CompS lo st n k js g te σ H Q := by
  refine ⟨fun i m ys σ H => m = n - i ∧ i ≤ n ∧ Pv i ys σ H, ⟨_, rfl, Nat.zero_le _, h0⟩, ?_⟩
  rintro i m ys σ H ⟨rfl, hi, p⟩
  by_cases hlt : i < n
  · refine .inr ⟨hlt, hlen _ _ _ _ p, Pv (i + 1), fun zs σ' H' p' => ⟨n - (i + 1), by omega, rfl, hlt, p'⟩, fun v H' yy => ?_⟩
    obtain ⟨rfl, rfl⟩ := yy
    exact hs i ys σ _ hlt p
  · have e : i = n := by omega
    exact .inl ⟨(show n ≤ i by omega), hd ys σ H (e ▸ p)⟩
end L2
namespace L2
open PySem PySem.Spec PyProof.Rows
open AutoSeq1 (wpAny_loadPart')
theorem tup_norf_mul : fillsNumberSlot (.type "tuple") "mul" = pure false :=
  PySem.fillsNumberSlot_seq (id := "tuple.__mul__") (r := some (.builtin "tuple.__rmul__")) F.slot_tuple_mul.lookup (by decide +kernel) (by rw [typeLookup_type, builtinLookup_eq_fast]; kernel_rfl) (by decide +kernel)
theorem tup_repeat : seqRepeat? (.type "tuple") = pure (some (.builtin "tuple.__mul__")) := by
  have e1 : typeLookup (.type "tuple") "__rmul__" = pure (some (.builtin "tuple.__rmul__")) := by rw [typeLookup_type, builtinLookup_eq_fast]; kernel_rfl
  unfold seqRepeat?
  rw [PySem.seqSlot_of (T := "tuple") (name := "__mul__") (id := "tuple.__mul__") F.slot_tuple_mul.lookup (by decide +kernel), PySem.seqSlot_of (T := "tuple") (name := "__rmul__") (id := "tuple.__rmul__") e1 (by decide +kernel)]
  rfl
theorem int_rmul_tup (k : Int) (t : Tok) (l : Addr) (its : Array Value) (n : Nat) (dd : Option Addr) (sl : Array (Option Value)) :
    Meets (Builtin.«int.__rmul__» ⟨[.int k t, .ref l], []⟩) (fun _ R s => s.heap.get? l = some { cls := .type "tuple", dict := dd, data := .seq its n, slots := sl } ∧ R (.ok (.ret Value.notImplemented)) s) :=
  .of_wp fun prog w A R s h => by obtain ⟨hp, g, d, tk, os⟩ := s; obtain ⟨hl, h⟩ := h; wp_walk; exact ⟨_, rfl, h⟩
theorem tup_mul_one (l : Addr) (its : Array Value) (n : Nat) (u : Tok) (dd : Option Addr) (sl : Array (Option Value)) :
    Meets (Builtin.«tuple.__mul__» ⟨[.ref l, .int 1 u], []⟩) (fun _ R s => s.heap.get? l = some { cls := .type "tuple", dict := dd, data := .seq its n, slots := sl } ∧ R (.ok (.ret (.ref l))) s) :=
  .of_wp fun prog w A R s h => by
    obtain ⟨hp, g, d, tk, os⟩ := s; obtain ⟨hl, h⟩ := h
    have f1 := AutoSeq1.idx_int
    have c1 : ¬ ((decide ((1 : Int) < -(2 ^ 63)) || decide ((1 : Int) ≥ 2 ^ 63)) = true) := by decide
    have c2 : (its.isEmpty || (1 : Int) == 1) = true := by simp
    wp_walk using wpAny_loadPart' hl
    exact ⟨_, rfl, h⟩
theorem tup_mul_no (l : Addr) (its : Array Value) (n : Nat) (k : Int) (u : Tok) (dd : Option Addr) (sl : Array (Option Value)) (h0 : k ≤ 0) (h1 : -(2 ^ 63) ≤ k) (ne : its.isEmpty = false) :
    Meets (Builtin.«tuple.__mul__» ⟨[.ref l, .int k u], []⟩) (fun _ R s => s.heap.get? l = some { cls := .type "tuple", dict := dd, data := .seq its n, slots := sl } ∧ R (.ok (.ret (.ref s.heap.objs.size))) { s with heap := s.heap.push { cls := .type "tuple", data := .seq #[] } }) :=
  .of_wp fun prog w A R s h => by
    obtain ⟨hp, g, d, tk, os⟩ := s; obtain ⟨hl, h⟩ := h
    have f1 := AutoSeq1.idx_int
    have c1 : ¬ ((decide (k < -(2 ^ 63)) || decide (k ≥ 2 ^ 63)) = true) := by simp; omega
    have c2 : ¬ (its.isEmpty || k == 1) = true := by simp [ne]; omega
    have c3 : (decide (k ≤ 0) || its.isEmpty) = true := by simp [h0]
    wp_walk using wpAny_loadPart' hl
    rw [if_neg c1]
    wp_walk using wpAny_loadPart' hl
    rw [if_neg c2]
    dsimp only
    rw [if_pos c3]
    wp_walk
    exact ⟨_, rfl, h⟩
theorem tup_mul_many (l : Addr) (its : Array Value) (n : Nat) (k : Int) (u : Tok) (dd : Option Addr) (sl : Array (Option Value)) (h0 : 1 < k) (h1 : k < 2 ^ 63) (ne : its.isEmpty = false) (hz : its.size * k.toNat ≤ sizeLine) :
    Meets (Builtin.«tuple.__mul__» ⟨[.ref l, .int k u], []⟩) (fun _ R s => s.heap.get? l = some { cls := .type "tuple", dict := dd, data := .seq its n, slots := sl } ∧ R (.ok (.ret (.ref s.heap.objs.size))) { s with heap := s.heap.push { cls := .type "tuple", data := .seq ((List.replicate k.toNat its).foldl (· ++ ·) #[]) } }) :=
  .of_wp fun prog w A R s h => by
    obtain ⟨hp, g, d, tk, os⟩ := s; obtain ⟨hl, h⟩ := h
    have f1 := AutoSeq1.idx_int
    have ek : (its.size : Int) * k = ((its.size * k.toNat : Nat) : Int) := by rw [Int.natCast_mul]; congr 1; omega
    have sl63 : (sizeLine : Int) ≤ (2 ^ 63 - 1) / 8 := by rw [sizeLine_eq]; decide
    have c1 : ¬ ((decide (k < -(2 ^ 63)) || decide (k ≥ 2 ^ 63)) = true) := by simp; omega
    have c2 : ¬ (its.isEmpty || k == 1) = true := by simp [ne]; omega
    have c3 : ¬ (decide (k ≤ 0) || its.isEmpty) = true := by simp [ne]; omega
    have c4 : ¬ ((its.size : Int) * k > (2 ^ 63 - 1) / 8) := by rw [ek]; omega
    have c5 : ¬ (Builtin.Tuple.tupleTooMany ((its.size : Int) * k) = true) := by
      unfold Builtin.Tuple.tupleTooMany
      rw [ek, decide_eq_true_eq]; omega
    have c6 : ((List.replicate k.toNat its).foldl (· ++ ·) #[]).size ≤ sizeLine := by
      have e : ∀ (m : Nat) (a : Array Value), ((List.replicate m its).foldl (· ++ ·) a).size = a.size + m * its.size := by
        intro m
        induction m with
        | zero => intro a; simp
        | succ m ih => intro a; rw [List.replicate_succ, List.foldl_cons, ih]; simp [Nat.succ_mul]; omega
      rw [e]; simp; rw [Nat.mul_comm]; exact hz
    wp_walk using wpAny_loadPart' hl
    rw [if_neg c1]
    wp_walk using wpAny_loadPart' hl
    rw [if_neg c2]
    dsimp only
    rw [if_neg c3]
    rw [if_neg c4]
    rw [if_neg c5]
    unfold Builtin.Tuple.tupleExact
    refine wpAny_bind (wpAny_newObj_type (wpAny_pure ?_) c6)
    exact ⟨_, rfl, h⟩
section
variable {X : Cx}
def rRepT : R2 := fun x y H Q => ∃ a k xs, x = .ref a ∧ y = .int k ∧ H a = some (.tup xs) ∧ xs ≠ [] ∧ (0 ≤ k ∧ k < 2 ^ 63) ∧ xs.length * k.toNat ≤ sizeLine ∧ (k = 1 → Q (.ref a) H) ∧ (k ≠ 1 → ∀ p, H p = none → Q (.ref p) (upd H p (.tup (List.replicate k.toNat xs).flatten)))
theorem op_repT : OpR X (binaryOp .Mult) rRepT := by
  intro pins s σ H x y v u Q I rx ry h
  obtain ⟨a, k, xs, rfl, rfl, hH, hx, ⟨h1, h2⟩, hz, q1, q2⟩ := h
  cases rx
  obtain ⟨t, rfl⟩ := ry
  obtain ⟨its, r, pl, _⟩ := I.tuple (.of hH)
  obtain ⟨⟨c, dd, dt, sl⟩, g, hc, n, hd⟩ := id pl
  simp only at hc hd
  subst hc hd
  have hl := r.length
  have ne : its.toArray.isEmpty = false := by
    cases its with
    | nil => exact absurd (r.nil_iff.mp rfl) hx
    | cons _ _ => rfl
  have hz' : its.toArray.size * k.toNat ≤ sizeLine := by rw [List.size_toArray, ← hl]; exact hz
  refine wpAny_binaryOp_repeat_ref (T := "tuple") (U := "int") (by decide) ⟨_, g, rfl⟩ (fun s' => typeIs_int s' k t) tup_norf_mul F.fills_int_mul F.slot_int_rmul tup_repeat F.slot_int_index.lookup
    (call_meets F.slot_int_rmul (typeIs_int s k t) F.entry_int_rmul (F.args_int_rmul_2 _ _) (int_rmul_tup k t a its.toArray n dd sl) ⟨g, rfl, ⟨_, g, rfl⟩, ?_⟩)
  by_cases e1 : k = 1
  · subst e1
    exact call_meets F.slot_tuple_mul ⟨_, g, rfl⟩ F.entry_tuple_mul (F.args_tuple_mul_2 _ _) (tup_mul_one a its.toArray n t dd sl) ⟨g, .ref a, H, I, rfl, q1 rfl⟩
  have fl : ∀ (m : Nat) (b : List Value), (List.replicate m its.toArray).foldl (· ++ ·) b.toArray = (b ++ (List.replicate m its).flatten).toArray := by
    intro m
    induction m with
    | zero => intro b; simp
    | succ m ih =>
      intro b
      rw [List.replicate_succ, List.foldl_cons, List.append_toArray, ih, List.replicate_succ, List.flatten_cons, List.append_assoc]
  have fin : ∀ bs : List Value, bs = (List.replicate k.toNat its).flatten → EP X pins σ Q (.ref s.heap.objs.size) { s with heap := s.heap.push { cls := .type "tuple", data := .seq bs.toArray } } := by
    rintro bs rfl
    refine ⟨.ref s.heap.objs.size, _, I.laid (t' := s.toks) (o := .tup (List.replicate k.toNat xs).flatten) (fun b ob q => Heap.get?_push_of_some _ q) (Nat.le_refl _) ?_, rfl, q2 e1 _ (I.hok.fresh (Nat.le_refl _))⟩
    exact ⟨by rw [len_rep, Nat.mul_comm]; exact hz, _, r.rep k.toNat, IsTup.new _ _⟩
  by_cases e0 : k = 0
  · subst e0
    exact call_meets F.slot_tuple_mul ⟨_, g, rfl⟩ F.entry_tuple_mul (F.args_tuple_mul_2 _ _) (tup_mul_no a its.toArray n 0 t dd sl (by omega) (by omega) ne) ⟨g, fin [] rfl⟩
  · refine call_meets F.slot_tuple_mul ⟨_, g, rfl⟩ F.entry_tuple_mul (F.args_tuple_mul_2 _ _) (tup_mul_many a its.toArray n k t dd sl (by omega) h2 ne hz') ⟨g, ?_⟩
    have e := fl k.toNat []
    rw [List.nil_append] at e
    show EP X pins σ Q (.ref s.heap.objs.size) { s with heap := s.heap.push { cls := .type "tuple", data := .seq ((List.replicate k.toNat its.toArray).foldl (· ++ ·) ([] : List Value).toArray) } }
    rw [e]
    exact fin _ rfl
end
end L2
namespace L2
open PySem PySem.Spec PyProof.Rows
section
variable {X : Cx}
def rCatS : R2 := fun x y H Q => ∃ a b xs ys, x = .ref a ∧ y = .ref b ∧ H a = some (.tup xs) ∧ H b = some (.tup ys) ∧ xs.length + ys.length ≤ sizeLine ∧ ∀ r H', Same H H' → H' r = some (.tup (xs ++ ys)) → Q (.ref r) H'
theorem op_catS : OpR X (binaryOp .Add) rCatS := by
  intro pins s σ H x y v u Q I rx ry h
  obtain ⟨a, b, xs, ys, rfl, rfl, ha, hb, hz, q⟩ := h
  refine op_catA pins s σ H _ _ v u Q I rx ry ⟨a, b, xs, ys, rfl, rfl, .of ha, .of hb, hz, fun e => ?_, fun _ e => ?_, fun _ _ p hp => ?_⟩
  · subst e; exact q b H (Same.refl _) hb
  · subst e; exact q a H (Same.refl _) (by rw [List.append_nil]; exact ha)
  · exact q p _ (same_new hp _) upd_same
def rSlTS : V → Option Int → Option Int → Hp → VK → Prop := fun x lo hi H Q => ∃ a xs, x = .ref a ∧ H a = some (.tup xs) ∧ ¬ (HT.sIx xs.length 0 lo = 0 ∧ HT.sIx xs.length xs.length hi = xs.length) ∧ ∀ r H', Same H H' → H' r = some (.tup (cutV xs lo hi)) → Q (.ref r) H'
theorem sl_tupS : SlR X rSlTS := by
  intro pins s σ H x v vl vu lo hi sl Q I rx hs pl pu h
  obtain ⟨a, xs, e, ha, nw, q⟩ := h
  exact sl_tup pins s σ H x v vl vu lo hi sl Q I rx hs pl pu ⟨a, xs, e, .of ha, nw, fun p hp => q p _ (same_new hp _) upd_same⟩
end
end L2
namespace L2
open PySem PySem.Spec PyProof.Rows
theorem has_of {names : List (Str × NameKind)} {cl : List (Str × Addr)} (h : names.all (fun y => match y.2 with | .cell => (cl.lookup y.1).isSome | .free => (cl.lookup y.1).isSome | _ => true) = true) :
    ∀ x, (names.lookup x = some .cell ∨ names.lookup x = some .free) → ∃ c, cl.lookup x = some c := by
  intro x hx
  have z := List.all_eq_true.mp h
  rcases hx with hx | hx
  · exact Option.isSome_iff_exists.mp (z _ (PySem.mem_of_lookup hx))
  · exact Option.isSome_iff_exists.mp (z _ (PySem.mem_of_lookup hx))
theorem cap1 {X : Cx} {scope : Scope} {cl : List (Str × Addr)} {x0 : Str} {j0 : Nat} (c0 : Cap X scope cl x0 j0) : ∀ (i : Nat) x j, [x0][i]? = some x → [j0][i]? = some j → Cap X scope cl x j
  | 0, _, _, h1, h2 => by cases h1; cases h2; exact c0
  | _ + 1, _, _, h1, _ => by cases h1
end L2
namespace L2
open PySem PySem.Spec PyProof.Rows
section
variable {prog : Program} {w : World} {A : Around} {R : Result → Shared → Prop} {s : Shared}
end
def tCompI (wi : TI) (k : Nat) (js : List Nat) (g : TG) (tc : TT) (te : TE) : TE := fun σ H Q => wi σ H fun J H1 =>
  ∃ W : Nat → Nat → List V → St → Hp → Prop, (∃ m, W 0 m [] (compSt k js σ) H1) ∧ ∀ i m ys σ' H', W i m ys σ' H' →
    (J.stop i H' ∧ ∀ p, H' p = none → Q (.ref p) (upd H' p (.lst ys))) ∨
    (J.go i H' ∧ ys.length < sizeLine ∧ ∃ N : List V → St → Hp → Prop, (∀ zs σ2 H2, N zs σ2 H2 → ∃ m', m' < m ∧ W (i + 1) m' zs σ2 H2) ∧
      ∀ x H2, J.yld i H' x H2 → g x σ' H2 fun σ3 H3 => tc σ3 H3 fun b H4 => if b = true then te σ3 H4 fun v H5 => N (ys ++ [v]) σ3 H5 else N ys σ3 H4)
end L2
namespace L2
open PySem PySem.Spec PyProof.Rows
section
variable {pg : Program} {wd : World} {B : Around} {X0 : Value → Shared → Prop} {s0 : Shared}
end
def Ite (K : PySem.W.Frag) (a : Addr) : It := ⟨fun i H => ∃ xs x, SqT K H a xs ∧ xs[i]? = some x,
  fun i H v H' => ∃ T x, v = .ref T ∧ H T = none ∧ H' = upd H T (.tup [.int i, x]) ∧ ∀ xs, SqT K H a xs → xs[i]? = some x, fun i H => ∃ xs, SqT K H a xs ∧ xs.length ≤ i⟩
section
variable {X : Cx} {es : List Expr} {x1 : Nat} {pp : Pos}
def iEnum (K : PySem.W.Frag) (te : TE) : TI := fun σ H R => te σ H fun v H1 => ∃ a xs, v = .ref a ∧ SqT K H1 a xs ∧ R (Ite K a) H1
end
def CompE (K : PySem.W.Frag) (k : Nat) (js : List Nat) (g : TG) (te : TE) (σ : St) (v : V) (H1 : Hp) (Q : VK) : Prop := ∃ a xs, v = .ref a ∧ SqT K H1 a xs ∧ ∃ W : Nat → Nat → List V → St → Hp → Prop, (∃ m, W 0 m [] (compSt k js σ) H1) ∧ ∀ i m zs σ' H', W i m zs σ' H' →
    ((Ite K a).stop i H' ∧ ∀ p, H' p = none → Q (.ref p) (upd H' p (.lst zs))) ∨
    ((Ite K a).go i H' ∧ zs.length < sizeLine ∧ ∃ N : List V → St → Hp → Prop, (∀ zs σ2 H2, N zs σ2 H2 → ∃ m', m' < m ∧ W (i + 1) m' zs σ2 H2) ∧ ∀ x H2, (Ite K a).yld i H' x H2 → g x σ' H2 fun σ3 H3 => te σ3 H3 fun v H4 => N (zs ++ [v]) σ3 H4)
theorem comp_eqE {K : PySem.W.Frag} {k : Nat} {js : List Nat} {tx : TE} {g : TG} {te : TE} {σ : St} {H : Hp} {Q : VK} : tComp (iEnum K tx) k js g te σ H Q = tx σ H fun v H1 => CompE K k js g te σ v H1 Q := rfl
theorem CompE.mk {K : PySem.W.Frag} {a : Addr} {xs : List V} {k : Nat} {js : List Nat} {g : TG} {te : TE} {Q : VK} {σ : St} {H : Hp} (h1 : SqT K H a xs) (Pv : Nat → List V → St → Hp → Prop) (h0 : Pv 0 [] (compSt k js σ) H) (hl : ∀ i zs σ H, i ≤ xs.length → Pv i zs σ H → SqT K H a xs ∧ zs.length < sizeLine)
    (hs : ∀ i x zs σ H T, xs[i]? = some x → Pv i zs σ H → H T = none → g (.ref T) σ (upd H T (.tup [.int i, x])) fun σ3 H3 => te σ3 H3 fun v H4 => Pv (i + 1) (zs ++ [v]) σ3 H4) (hz : ∀ zs σ H, Pv xs.length zs σ H → ∀ p, H p = none → Q (.ref p) (upd H p (.lst zs))) :
    CompE K k js g te σ (.ref a) H Q := by
  refine ⟨a, xs, rfl, h1, fun i m zs σ H => m = xs.length - i ∧ i ≤ xs.length ∧ Pv i zs σ H, ⟨_, rfl, Nat.zero_le _, h0⟩, ?_⟩
  rintro i m zs σ H ⟨rfl, hi, p⟩
  obtain ⟨k1, k2⟩ := hl i zs σ H hi p
  by_cases hlt : i < xs.length
  · refine .inr ⟨⟨xs, _, k1, List.getElem?_eq_getElem hlt⟩, k2, Pv (i + 1), fun zs' σ' H' p' => ⟨xs.length - (i + 1), by omega, rfl, hlt, p'⟩, fun v H' yy => ?_⟩
    obtain ⟨T, x, rfl, hT, rfl, ex⟩ := yy
    exact hs i x zs σ H T (ex xs k1) p hT
  · have e : i = xs.length := by omega
    exact .inl ⟨⟨xs, k1, by omega⟩, hz zs σ H (e ▸ p)⟩
def CompEI (K : PySem.W.Frag) (k : Nat) (js : List Nat) (g : TG) (tc : TT) (te : TE) (σ : St) (v : V) (H1 : Hp) (Q : VK) : Prop := ∃ a xs, v = .ref a ∧ SqT K H1 a xs ∧ ∃ W : Nat → Nat → List V → St → Hp → Prop, (∃ m, W 0 m [] (compSt k js σ) H1) ∧ ∀ i m zs σ' H', W i m zs σ' H' →
    ((Ite K a).stop i H' ∧ ∀ p, H' p = none → Q (.ref p) (upd H' p (.lst zs))) ∨
    ((Ite K a).go i H' ∧ zs.length < sizeLine ∧ ∃ N : List V → St → Hp → Prop, (∀ zs σ2 H2, N zs σ2 H2 → ∃ m', m' < m ∧ W (i + 1) m' zs σ2 H2) ∧ ∀ x H2, (Ite K a).yld i H' x H2 → g x σ' H2 fun σ3 H3 => tc σ3 H3 fun b H4 => if b = true then te σ3 H4 fun v H5 => N (zs ++ [v]) σ3 H5 else N zs σ3 H4)
theorem comp_eqEI {K : PySem.W.Frag} {k : Nat} {js : List Nat} {tx : TE} {g : TG} {tc : TT} {te : TE} {σ : St} {H : Hp} {Q : VK} : tCompI (iEnum K tx) k js g tc te σ H Q = tx σ H fun v H1 => CompEI K k js g tc te σ v H1 Q := rfl
theorem CompEI.mk {K : PySem.W.Frag} {a : Addr} {xs : List V} {k : Nat} {js : List Nat} {g : TG} {tc : TT} {te : TE} {Q : VK} {σ : St} {H : Hp} (h1 : SqT K H a xs) (Pv : Nat → List V → St → Hp → Prop) (h0 : Pv 0 [] (compSt k js σ) H) (hl : ∀ i zs σ H, i ≤ xs.length → Pv i zs σ H → SqT K H a xs ∧ zs.length < sizeLine)
    (hs : ∀ i x zs σ H T, xs[i]? = some x → Pv i zs σ H → H T = none → g (.ref T) σ (upd H T (.tup [.int i, x])) fun σ3 H3 => tc σ3 H3 fun b H4 => if b = true then te σ3 H4 fun v H5 => Pv (i + 1) (zs ++ [v]) σ3 H5 else Pv (i + 1) zs σ3 H4) (hz : ∀ zs σ H, Pv xs.length zs σ H → ∀ p, H p = none → Q (.ref p) (upd H p (.lst zs))) :
    CompEI K k js g tc te σ (.ref a) H Q := by
  refine ⟨a, xs, rfl, h1, fun i m zs σ H => m = xs.length - i ∧ i ≤ xs.length ∧ Pv i zs σ H, ⟨_, rfl, Nat.zero_le _, h0⟩, ?_⟩
  rintro i m zs σ H ⟨rfl, hi, p⟩
  obtain ⟨k1, k2⟩ := hl i zs σ H hi p
  by_cases hlt : i < xs.length
  · refine .inr ⟨⟨xs, _, k1, List.getElem?_eq_getElem hlt⟩, k2, Pv (i + 1), fun zs' σ' H' p' => ⟨xs.length - (i + 1), by omega, rfl, hlt, p'⟩, fun v H' yy => ?_⟩
    obtain ⟨T, x, rfl, hT, rfl, ex⟩ := yy
    exact hs i x zs σ H T (ex xs k1) p hT
  · have e : i = xs.length := by omega
    exact .inl ⟨⟨xs, k1, by omega⟩, hz zs σ H (e ▸ p)⟩
end L2
namespace L2
open PySem PySem.Spec PyProof.Rows
section
variable {X : Cx}
def rNeT (K : PySem.W.Frag) : R2 := fun x y H Q => ∃ a b xs ys, x = .ref a ∧ y = .ref b ∧ SqT K H a xs ∧ SqT K H b ys ∧ xs.all flatV = true ∧ ys.all flatV = true ∧ Q (.bl (!eqVs xs ys)) H
theorem op_neT (hu : X.A.units < cLine) : OpR X (compareOp .NotEq) (rNeT X.K) := by
  intro pins s σ H x y v u Q I rx ry h
  obtain ⟨a, b, xs, ys, rfl, rfl, ha, hb, f1, f2, q⟩ := h
  cases rx
  cases ry
  obtain ⟨us, r1, p1, _⟩ := I.tuple ha
  obtain ⟨ws, r2, p2, _⟩ := I.tuple hb
  refine SeqAt.RcNeAt.tuples (show s.heap.IsTuple a us.toArray from p1) (show s.heap.IsTuple b ws.toArray from p2) (e := eqAtI xs ys) hu (eqAtI_ok r1 r2 f1 f2) _ _ _ _ ?_
  have e1 : us.toArray.size = xs.length := by simp [r1.length]
  have e2 : ws.toArray.size = ys.length := by simp [r2.length]
  rw [e1, e2]
  have z : ((List.range (min xs.length ys.length)).all (eqAtI xs ys) && xs.length == ys.length) = eqVs xs ys := by
    by_cases hl : xs.length = ys.length
    · rw [← hl, Nat.min_self, eqVs_all hl]; simp
    · rw [eqVs_len hl]; simp [hl]
  rw [z]
  exact ⟨.bl _, H, I, rfl, q⟩
def rNeL (K : PySem.W.Frag) : R2 := fun x y H Q => ∃ a b xs ys, x = .ref a ∧ y = .ref b ∧ SqL K H a xs ∧ SqL K H b ys ∧ xs.all flatV = true ∧ ys.all flatV = true ∧ Q (.bl (!eqVs xs ys)) H
theorem op_neL (hu : X.A.units < cLine) : OpR X (compareOp .NotEq) (rNeL X.K) := by
  intro pins s σ H x y v u Q I rx ry h
  obtain ⟨a, b, xs, ys, rfl, rfl, ha, hb, f1, f2, q⟩ := h
  cases rx
  cases ry
  obtain ⟨us, r1, p1, _⟩ := I.list ha
  obtain ⟨ws, r2, p2, _⟩ := I.list hb
  by_cases hl : xs.length = ys.length
  · refine SeqAt.RcNeAt.lists p1.isList p2.isList (e := eqAtI xs ys) (by simp [← r1.length, ← r2.length, hl]) hu (eqAtI_ok r1 r2 f1 f2) _ _ _ _ ?_
    have e : us.toArray.size = xs.length := by simp [r1.length]
    rw [e, eqVs_all hl]
    exact ⟨.bl _, H, I, rfl, q⟩
  · refine SeqAt.RcNeAt.lists_lengths p1.isList p2.isList (by simp [← r1.length, ← r2.length, hl]) hu _ _ _ _ ?_
    rw [eqVs_len hl] at q
    exact ⟨.bl _, H, I, rfl, q⟩
end
theorem cl_sub1 {cells : List (Str × Addr)} {y : Str} {a : Addr} (h : cells.lookup y = some a) : ∀ x c, [(y, a)].lookup x = some c → cells.lookup x = some c := fun x c e => by
  cases List.mem_singleton.mp (PySem.mem_of_lookup e); exact h
theorem cl_sub2 {cells : List (Str × Addr)} {y z : Str} {a b : Addr} (h : cells.lookup y = some a) (h2 : cells.lookup z = some b) : ∀ x c, [(y, a), (z, b)].lookup x = some c → cells.lookup x = some c := fun x c e => by
  rcases List.mem_cons.mp (PySem.mem_of_lookup e) with q | q
  · cases q; exact h
  · cases List.mem_singleton.mp q; exact h2
end L2
namespace HT
open PySem PySem.Spec PyProof.Rows L2
theorem whole_tup {prog : Program} {w : World} {A : Around} {E : Value → Shared → Prop} {s : Shared} {t sl : Addr} {its : Array Value} {vl vu : Value} {lo hi : Option Int} {R : Value → Shared → Prop} (ht : IsTup s.heap t its) (hs : s.heap.IsSliceOf sl vl vu .none) (pl : IsPart vl lo) (pu : IsPart vu hi)
    (h0 : sIx its.size 0 lo = 0) (h1 : sIx its.size its.size hi = its.size) (h : R (.ref t) s) : wpAny (model prog w) A (getItem (.ref t) (.ref sl)) R E s := by
  obtain ⟨os, hos, hcs, hds⟩ := id hs
  have hTs : s.TypeIs (.ref sl) "slice" := ⟨os, hos, hcs⟩
  unfold getItem
  try with_reducible refine wpAny_holding ?_
  first | refine wpAny_bind (wpAny_pure ?_) | skip
  refine wpAny_bind (wpAny_sequenceKey ht.typeIs (by decide) ?_)
  refine wpAny_bind (wpAny_callSpecial?_slot (name := Str.ofString "__getitem__") ht.typeIs PyProof.Rows.slot_tuple_getitem (wpAny_call_entry PyProof.Rows.slot_tuple_getitem ht.typeIs entry_tuple_getitem ?_ (args_tuple_getitem _ _)))
  show wpAny _ _ (Builtin.Tuple.tupleItemsOf (.ref t) >>= _) _ _ s
  refine wpAny_bind (tupleItemsOf_ ht ?_)
  refine wpAny_bind (wpAny_typeOf hTs ?_)
  rw [if_pos (by decide)]
  refine wpAny_bind (sliceApplied_gen hs pl pu ?_)
  show wpAny _ _ (if (((sIx its.size 0 lo : Nat) : Int) == 0 && (1 : Int) == 1 && (sIx its.size its.size hi - sIx its.size 0 lo) == its.size) = true then _ else _) _ _ s
  rw [if_pos (by rw [h0, h1]; simp)]
  unfold Builtin.Tuple.tupleIsExact
  exact wpAny_bind (wpAny_bind (wpAny_typeOf ht.typeIs (wpAny_pure (wpAny_bind (wpAny_rule (wpAny_pure ⟨_, rfl, wpAny_pure h⟩))))))
end HT
namespace L2
open PySem PySem.Spec PyProof.Rows
section
variable {X : Cx}
def rSlTA : V → Option Int → Option Int → Hp → VK → Prop := fun x lo hi H Q => ∃ a xs, x = .ref a ∧ H a = some (.tup xs) ∧ ∀ r H', Same H H' → H' r = some (.tup (cutV xs lo hi)) → Q (.ref r) H'
theorem sl_tupA : SlR X rSlTA := by
  intro pins s σ H x v vl vu lo hi sl Q I rx hs pl pu h
  obtain ⟨a, xs, rfl, ha, q⟩ := h
  by_cases c : HT.sIx xs.length 0 lo = 0 ∧ HT.sIx xs.length xs.length hi = xs.length
  · cases rx
    obtain ⟨its, r, ht, hz⟩ := I.tuple (show SqT X.K H a xs from .of ha)
    have hlen : its.toArray.size = xs.length := by rw [List.size_toArray]; exact r.length.symm
    refine ⟨"tuple", _, PyProof.Rows.slot_tuple_getitem.lookup, ht.typeIs, HT.whole_tup ht hs pl pu (by rw [hlen]; exact c.1) (by rw [hlen]; exact c.2) ⟨.ref a, H, I, rfl, q a H (Same.refl _) ?_⟩⟩
    unfold cutV
    rw [c.1, c.2, List.drop_zero, Nat.sub_zero, List.take_length]
    exact ha
  · exact sl_tupS pins s σ H _ v vl vu lo hi sl Q I rx hs pl pu ⟨a, xs, rfl, ha, c, q⟩
end
end L2
namespace L2
open PySem PySem.Spec PyProof.Rows
def okS (k : Nat) (x : Str) : Prop := x.length ≤ k ∧ ∀ c ∈ x.cps.toList, c < 1000
theorem okS.mono {k m : Nat} {x : Str} (h : okS k x) (l : k ≤ m) : okS m x := ⟨Nat.le_trans h.1 l, h.2⟩
section
variable {X : Cx}
def tFR (t1 t2 : TE) : TE := fun σ H Q => t1 σ H fun x H1 => ∃ a, x = .str a ∧ okS 1000 a ∧ t2 σ H1 fun y H2 => ∃ b, y = .str b ∧ okS 1000 b ∧ ∀ z, Q (.str z) H2
def rSlStr : V → Option Int → Option Int → Hp → VK → Prop := fun x lo hi H Q => ∃ z, x = .str z ∧ z.length ≤ 1000 ∧ ∀ y : Str, y.length ≤ z.length → (∀ c ∈ y.cps.toList, c ∈ z.cps.toList) → Q (.str y) H
def rUpper : V → List V → Hp → VK → Prop := fun x xs H Q => ∃ z, x = .str z ∧ xs = [] ∧ okS 1000 ⟨placed z fun _ c => Unicode.upperOf c⟩ ∧ Q (.str ⟨placed z fun _ c => Unicode.upperOf c⟩) H
def rJoin (K : PySem.W.Frag) : V → List V → Hp → VK → Prop := fun x xs H Q => ∃ (z : Str) (l : Addr) (ys : List Str), x = .str z ∧ z.length = 0 ∧ xs = [.ref l] ∧ SqL K H l (ys.map V.str) ∧ ys.length ≤ 100 ∧ (∀ y ∈ ys, okS 10 y) ∧ ∀ y : Str, okS 1000 y → Q (.str y) H
end
end L2
namespace L2
open PySem PySem.Spec PyProof.Rows
def Itel (K : PySem.W.Frag) (a : Addr) : It := ⟨fun i H => ∃ xs x, SqL K H a xs ∧ xs[i]? = some x,
  fun i H v H' => ∃ T x, v = .ref T ∧ H T = none ∧ H' = upd H T (.tup [.int i, x]) ∧ ∀ xs, SqL K H a xs → xs[i]? = some x, fun i H => ∃ xs, SqL K H a xs ∧ xs.length ≤ i⟩
section
variable {X : Cx} {es : List Expr} {x1 : Nat} {pp : Pos}
def iEnumL (K : PySem.W.Frag) (te : TE) : TI := fun σ H R => te σ H fun v H1 => ∃ a xs, v = .ref a ∧ SqL K H1 a xs ∧ R (Itel K a) H1
end
def LoopEL (K : PySem.W.Frag) (g : TG) (tb : TS) (D : Ends) (σ : St) (v : V) (H1 : Hp) : Prop := ∃ a xs, v = .ref a ∧ SqL K H1 a xs ∧ ∃ W : Nat → Nat → St → Hp → Prop, (∃ m, W 0 m σ H1) ∧ ∀ i m σ H, W i m σ H →
  ((Itel K a).stop i H ∧ D.nx σ H) ∨ ((Itel K a).go i H ∧ ∃ N : St → Hp → Prop, (∀ σ' H', N σ' H' → ∃ m', m' < m ∧ W (i + 1) m' σ' H') ∧ ∀ x H', (Itel K a).yld i H x H' → g x σ H' fun σ2 H2 => tb { D with nx := N, ct := N, bk := D.nx } σ2 H2)
theorem for_eqEL {K : PySem.W.Frag} {te : TE} {g : TG} {tb : TS} {D : Ends} {σ : St} {H : Hp} : tFor (iEnumL K te) g tb D σ H = te σ H fun v H1 => LoopEL K g tb D σ v H1 := rfl
theorem LoopEL.mk {K : PySem.W.Frag} {a : Addr} {xs : List V} {g : TG} {tb : TS} {D : Ends} {σ : St} {H : Hp} (h1 : SqL K H a xs) (Pv : Nat → St → Hp → Prop) (h0 : Pv 0 σ H) (hl : ∀ i σ H, i ≤ xs.length → Pv i σ H → SqL K H a xs)
    (hs : ∀ i x σ H T, xs[i]? = some x → Pv i σ H → H T = none → g (.ref T) σ (upd H T (.tup [.int i, x])) fun σ2 H2 => tb { D with nx := Pv (i + 1), ct := Pv (i + 1), bk := D.nx } σ2 H2) (hd : ∀ σ H, Pv xs.length σ H → D.nx σ H) :
    LoopEL K g tb D σ (.ref a) H := by
  refine ⟨a, xs, rfl, h1, fun i m σ H => m = xs.length - i ∧ i ≤ xs.length ∧ Pv i σ H, ⟨_, rfl, Nat.zero_le _, h0⟩, ?_⟩
  rintro i m σ H ⟨rfl, hi, p⟩
  have k1 := hl i σ H hi p
  by_cases hlt : i < xs.length
  · refine .inr ⟨⟨xs, _, k1, List.getElem?_eq_getElem hlt⟩, Pv (i + 1), fun σ' H' p' => ⟨xs.length - (i + 1), by omega, rfl, hlt, p'⟩, fun v H' yy => ?_⟩
    obtain ⟨T, x, rfl, hT, rfl, ex⟩ := yy
    exact hs i x σ H T (ex xs k1) p hT
  · have e : i = xs.length := by omega
    exact .inl ⟨⟨xs, k1, by omega⟩, hd σ H (e ▸ p)⟩
end L2
namespace L2
open PySem PySem.Spec PyProof.Rows
def Itx (x : Str) : It := ⟨fun i _ => i < x.cps.size, fun i H v H' => H' = H ∧ ∃ c, x.cps[i]? = some c ∧ v = .str ⟨#[c]⟩, fun i _ => x.cps.size ≤ i⟩
section
variable {X : Cx} {tg : Expr}
def iStr (tl : TE) : TI := fun σ H R => tl σ H fun x H1 => ∃ z, x = .str z ∧ R (Itx z) H1
end
def LoopX (g : TG) (tb : TS) (D : Ends) (σ : St) (v : V) (H1 : Hp) : Prop := ∃ z, v = .str z ∧ ∃ W : Nat → Nat → St → Hp → Prop, (∃ m, W 0 m σ H1) ∧ ∀ i m σ H, W i m σ H →
  ((Itx z).stop i H ∧ D.nx σ H) ∨ ((Itx z).go i H ∧ ∃ N : St → Hp → Prop, (∀ σ' H', N σ' H' → ∃ m', m' < m ∧ W (i + 1) m' σ' H') ∧ ∀ x H', (Itx z).yld i H x H' → g x σ H' fun σ2 H2 => tb { D with nx := N, ct := N, bk := D.nx } σ2 H2)
theorem for_eqX {te : TE} {g : TG} {tb : TS} {D : Ends} {σ : St} {H : Hp} : tFor (iStr te) g tb D σ H = te σ H fun v H1 => LoopX g tb D σ v H1 := rfl
theorem LoopX.mk {z : Str} {g : TG} {tb : TS} {D : Ends} {σ : St} {H : Hp} (Pv : Nat → St → Hp → Prop) (h0 : Pv 0 σ H)
    (hs : ∀ i c σ H, z.cps[i]? = some c → Pv i σ H → g (.str ⟨#[c]⟩) σ H fun σ2 H2 => tb { D with nx := Pv (i + 1), ct := Pv (i + 1), bk := D.nx } σ2 H2) (hd : ∀ σ H, Pv z.cps.size σ H → D.nx σ H) :
    LoopX g tb D σ (.str z) H := by
  refine ⟨z, rfl, fun i m σ H => m = z.cps.size - i ∧ i ≤ z.cps.size ∧ Pv i σ H, ⟨_, rfl, Nat.zero_le _, h0⟩, ?_⟩
  rintro i m σ H ⟨rfl, hi, p⟩
  by_cases hlt : i < z.cps.size
  · refine .inr ⟨hlt, Pv (i + 1), fun σ' H' p' => ⟨z.cps.size - (i + 1), by omega, rfl, hlt, p'⟩, fun v H' yy => ?_⟩
    obtain ⟨rfl, c, ec, rfl⟩ := yy
    exact hs i c σ H' ec p
  · have e : i = z.cps.size := by omega
    exact .inl ⟨by show z.cps.size ≤ i; omega, hd σ H (e ▸ p)⟩
def CompX (k : Nat) (js : List Nat) (g : TG) (te : TE) (σ : St) (v : V) (H1 : Hp) (Q : VK) : Prop := ∃ z, v = .str z ∧ ∃ W : Nat → Nat → List V → St → Hp → Prop, (∃ m, W 0 m [] (compSt k js σ) H1) ∧ ∀ i m ys σ' H', W i m ys σ' H' →
    ((Itx z).stop i H' ∧ ∀ p, H' p = none → Q (.ref p) (upd H' p (.lst ys))) ∨
    ((Itx z).go i H' ∧ ys.length < sizeLine ∧ ∃ N : List V → St → Hp → Prop, (∀ zs σ2 H2, N zs σ2 H2 → ∃ m', m' < m ∧ W (i + 1) m' zs σ2 H2) ∧ ∀ x H2, (Itx z).yld i H' x H2 → g x σ' H2 fun σ3 H3 => te σ3 H3 fun v H4 => N (ys ++ [v]) σ3 H4)
theorem comp_eqX {k : Nat} {js : List Nat} {ti : TE} {g : TG} {te : TE} {σ : St} {H : Hp} {Q : VK} : tComp (iStr ti) k js g te σ H Q = ti σ H fun x H1 => CompX k js g te σ x H1 Q := rfl
theorem CompX.mk {z : Str} {k : Nat} {js : List Nat} {g : TG} {te : TE} {Q : VK} {σ : St} {H : Hp} (Pv : Nat → List V → St → Hp → Prop) (h0 : Pv 0 [] (compSt k js σ) H)
    (hs : ∀ i c ys σ H, z.cps[i]? = some c → Pv i ys σ H → ys.length < sizeLine ∧ g (.str ⟨#[c]⟩) σ H fun σ3 H3 => te σ3 H3 fun v H4 => Pv (i + 1) (ys ++ [v]) σ3 H4) (hd : ∀ ys σ H, Pv z.cps.size ys σ H → ∀ p, H p = none → Q (.ref p) (upd H p (.lst ys))) :
    CompX k js g te σ (.str z) H Q := by
  refine ⟨z, rfl, fun i m ys σ H => m = z.cps.size - i ∧ i ≤ z.cps.size ∧ Pv i ys σ H, ⟨_, rfl, Nat.zero_le _, h0⟩, ?_⟩
  rintro i m ys σ H ⟨rfl, hi, p⟩
  by_cases hlt : i < z.cps.size
  · refine .inr ⟨hlt, (hs i (z.cps[i]'hlt) ys σ H (Array.getElem?_eq_getElem hlt) p).1, Pv (i + 1), fun zs σ' H' p' => ⟨z.cps.size - (i + 1), by omega, rfl, hlt, p'⟩, fun v H' yy => ?_⟩
    obtain ⟨rfl, c, ec, rfl⟩ := yy
    exact (hs i c ys σ H' ec p).2
  · have e : i = z.cps.size := by omega
    exact .inl ⟨by show z.cps.size ≤ i; omega, hd ys σ H (e ▸ p)⟩
section
variable {X : Cx}
def findI (x y : Str) : Int := match Builtin.Str.occurrences x y 0 x.length 1 with | i :: _ => (i : Int) | [] => -1
def rFind : V → List V → Hp → VK → Prop := fun x xs H Q => ∃ z y, x = .str z ∧ xs = [.str y] ∧ Q (.int (findI z y)) H
end
end L2
namespace L2
open PySem PySem.Spec PyProof.Rows
section
variable {X : Cx}
def rCatL (K : PySem.W.Frag) : R2 := fun x y H Q => ∃ l b xs zs, x = .ref l ∧ y = .ref b ∧ SqL K H l xs ∧ SqL K H b zs ∧ xs.length + zs.length ≤ sizeLine ∧ ∀ p, H p = none → Q (.ref p) (upd H p (.lst (xs ++ zs)))
end
end L2
namespace L2
open PySem PySem.Spec PyProof.Rows
section
variable {pg : Program} {wd : World} {B : Around} {X0 : Value → Shared → Prop} {s0 : Shared}
end
def ItzL (K : PySem.W.Frag) (a b : Addr) : It := ⟨fun i H => ∃ xs ys x y, SqL K H a xs ∧ SqL K H b ys ∧ xs[i]? = some x ∧ ys[i]? = some y,
  fun i H v H' => ∃ T x y, v = .ref T ∧ H T = none ∧ H' = upd H T (.tup [x, y]) ∧ ∀ xs ys, SqL K H a xs → SqL K H b ys → xs[i]? = some x ∧ ys[i]? = some y, fun i H => ∃ xs ys, SqL K H a xs ∧ SqL K H b ys ∧ (xs.length ≤ i ∨ ys.length ≤ i)⟩
section
variable {X : Cx} {es : List Expr} {x1 : Nat} {pp : Pos}
def iZipL (K : PySem.W.Frag) (ta : TA) : TI := fun σ H R => ta σ H fun vs H1 => ∃ a b xs ys, vs = [.ref a, .ref b] ∧ SqL K H1 a xs ∧ SqL K H1 b ys ∧ R (ItzL K a b) H1
end
def LoopZL (K : PySem.W.Frag) (g : TG) (tb : TS) (D : Ends) (σ : St) (vs : List V) (H1 : Hp) : Prop := ∃ a b xs ys, vs = [.ref a, .ref b] ∧ SqL K H1 a xs ∧ SqL K H1 b ys ∧ ∃ W : Nat → Nat → St → Hp → Prop, (∃ m, W 0 m σ H1) ∧ ∀ i m σ H, W i m σ H →
  ((ItzL K a b).stop i H ∧ D.nx σ H) ∨ ((ItzL K a b).go i H ∧ ∃ N : St → Hp → Prop, (∀ σ' H', N σ' H' → ∃ m', m' < m ∧ W (i + 1) m' σ' H') ∧ ∀ x H', (ItzL K a b).yld i H x H' → g x σ H' fun σ2 H2 => tb { D with nx := N, ct := N, bk := D.nx } σ2 H2)
theorem for_eqZL {K : PySem.W.Frag} {ta : TA} {g : TG} {tb : TS} {D : Ends} {σ : St} {H : Hp} : tFor (iZipL K ta) g tb D σ H = ta σ H fun vs H1 => LoopZL K g tb D σ vs H1 := rfl
theorem LoopZL.mk {K : PySem.W.Frag} {a b : Addr} {xs ys : List V} {g : TG} {tb : TS} {D : Ends} {σ : St} {H : Hp} (n : Nat) (hn : n = min xs.length ys.length) (h1 : SqL K H a xs) (h2 : SqL K H b ys) (Pv : Nat → St → Hp → Prop) (h0 : Pv 0 σ H) (hl : ∀ i σ H, i ≤ n → Pv i σ H → SqL K H a xs ∧ SqL K H b ys)
    (hs : ∀ i x y σ H T, i < n → xs[i]? = some x → ys[i]? = some y → Pv i σ H → H T = none → g (.ref T) σ (upd H T (.tup [x, y])) fun σ2 H2 => tb { D with nx := Pv (i + 1), ct := Pv (i + 1), bk := D.nx } σ2 H2) (hd : ∀ σ H, Pv n σ H → D.nx σ H) :
    LoopZL K g tb D σ [.ref a, .ref b] H := by
  subst hn
  refine ⟨a, b, xs, ys, rfl, h1, h2, fun i m σ H => m = min xs.length ys.length - i ∧ i ≤ min xs.length ys.length ∧ Pv i σ H, ⟨_, rfl, Nat.zero_le _, h0⟩, ?_⟩
  rintro i m σ H ⟨rfl, hi, p⟩
  obtain ⟨k1, k2⟩ := hl i σ H hi p
  by_cases hlt : i < min xs.length ys.length
  · have l1 : i < xs.length := by omega
    have l2 : i < ys.length := by omega
    refine .inr ⟨⟨xs, ys, _, _, k1, k2, List.getElem?_eq_getElem l1, List.getElem?_eq_getElem l2⟩, Pv (i + 1), fun σ' H' p' => ⟨min xs.length ys.length - (i + 1), by omega, rfl, hlt, p'⟩, fun v H' yy => ?_⟩
    obtain ⟨T, x, y, rfl, hT, rfl, ex⟩ := yy
    obtain ⟨ex1, ex2⟩ := ex xs ys k1 k2
    exact hs i x y σ H T hlt ex1 ex2 p hT
  · have e : i = min xs.length ys.length := by omega
    exact .inl ⟨⟨xs, ys, k1, k2, by omega⟩, hd σ H (e ▸ p)⟩
def CompZL (K : PySem.W.Frag) (k : Nat) (js : List Nat) (g : TG) (te : TE) (σ : St) (vs : List V) (H1 : Hp) (Q : VK) : Prop := ∃ a b xs ys, vs = [.ref a, .ref b] ∧ SqL K H1 a xs ∧ SqL K H1 b ys ∧ ∃ W : Nat → Nat → List V → St → Hp → Prop, (∃ m, W 0 m [] (compSt k js σ) H1) ∧ ∀ i m zs σ' H', W i m zs σ' H' →
    ((ItzL K a b).stop i H' ∧ ∀ p, H' p = none → Q (.ref p) (upd H' p (.lst zs))) ∨
    ((ItzL K a b).go i H' ∧ zs.length < sizeLine ∧ ∃ N : List V → St → Hp → Prop, (∀ zs σ2 H2, N zs σ2 H2 → ∃ m', m' < m ∧ W (i + 1) m' zs σ2 H2) ∧ ∀ x H2, (ItzL K a b).yld i H' x H2 → g x σ' H2 fun σ3 H3 => te σ3 H3 fun v H4 => N (zs ++ [v]) σ3 H4)
theorem comp_eqZL {K : PySem.W.Frag} {k : Nat} {js : List Nat} {ta : TA} {g : TG} {te : TE} {σ : St} {H : Hp} {Q : VK} : tComp (iZipL K ta) k js g te σ H Q = ta σ H fun vs H1 => CompZL K k js g te σ vs H1 Q := rfl
theorem CompZL.mk {K : PySem.W.Frag} {a b : Addr} {xs ys : List V} {k : Nat} {js : List Nat} {g : TG} {te : TE} {Q : VK} {σ : St} {H : Hp} (n : Nat) (hn : n = min xs.length ys.length) (h1 : SqL K H a xs) (h2 : SqL K H b ys) (Pv : Nat → List V → St → Hp → Prop) (h0 : Pv 0 [] (compSt k js σ) H) (hl : ∀ i zs σ H, i ≤ n → Pv i zs σ H → SqL K H a xs ∧ SqL K H b ys)
    (hs : ∀ i x y zs σ H T, i < n → xs[i]? = some x → ys[i]? = some y → Pv i zs σ H → H T = none → zs.length < sizeLine ∧ g (.ref T) σ (upd H T (.tup [x, y])) fun σ3 H3 => te σ3 H3 fun v H4 => Pv (i + 1) (zs ++ [v]) σ3 H4) (hz : ∀ zs σ H, Pv n zs σ H → ∀ p, H p = none → Q (.ref p) (upd H p (.lst zs))) (hlen : ∀ i zs σ H, Pv i zs σ H → zs.length < sizeLine) :
    CompZL K k js g te σ [.ref a, .ref b] H Q := by
  subst hn
  refine ⟨a, b, xs, ys, rfl, h1, h2, fun i m zs σ H => m = min xs.length ys.length - i ∧ i ≤ min xs.length ys.length ∧ Pv i zs σ H, ⟨_, rfl, Nat.zero_le _, h0⟩, ?_⟩
  rintro i m zs σ H ⟨rfl, hi, p⟩
  obtain ⟨k1, k2⟩ := hl i zs σ H hi p
  by_cases hlt : i < min xs.length ys.length
  · have l1 : i < xs.length := by omega
    have l2 : i < ys.length := by omega
    refine .inr ⟨⟨xs, ys, _, _, k1, k2, List.getElem?_eq_getElem l1, List.getElem?_eq_getElem l2⟩, hlen _ _ _ _ p, Pv (i + 1), fun zs' σ' H' p' => ⟨min xs.length ys.length - (i + 1), by omega, rfl, hlt, p'⟩, fun v H' yy => ?_⟩
    obtain ⟨T, x, y, rfl, hT, rfl, ex⟩ := yy
    obtain ⟨ex1, ex2⟩ := ex xs ys k1 k2
    exact (hs i x y zs σ H T hlt ex1 ex2 p hT).2
  · have e : i = min xs.length ys.length := by omega
    exact .inl ⟨⟨xs, ys, k1, k2, by omega⟩, hz zs σ H (e ▸ p)⟩
end L2
namespace L2
open PySem PySem.Spec PyProof.Rows
section
variable {prog : Program} {w : World} {A : Around} {E : Value → Shared → Prop} {s : Shared}
theorem sorted_seq {l : Addr} {T : String} {o : Obj} {vs : List Value} {n : Nat} {ns : List Int} {Q : Value → Shared → Prop} (hT : T = "list" ∨ T = "tuple") (ho : s.heap.get? l = some o) (hc : o.cls = .type T) (hd : o.data = .seq vs.toArray n) (hI : IntsAre vs ns) (h64 : vs.length < 64)
    (h : ∀ (h1 h2 : Heap) (vs' : List Value) (ns' : List Int) (e : Nat), (∀ b u, s.heap.get? b = some u → h1.get? b = some u) → (∀ b u, h1.get? b = some u → h2.get? b = some u) → h2.get? h1.objs.size = some (seqObj "list" vs'.toArray e) → IntsAre vs' ns' → ns'.Perm ns → ns'.Pairwise (· ≤ ·) → Q (.ref h1.objs.size) { s with heap := h2 }) :
    wpAny (model prog w) A (call (.builtin "sorted") [.ref l]) Q E s := by
  refine Calls.call_function_entry kind_sorted plain_sorted entry_sorted (args_sorted1 _) ?_
  unfold Builtin.«sorted»
  refine wpAny_bind (m := checkCount "sorted" 1 1 _) (wpAny_pure ?_)
  refine wpAny_bind (wpAny_collect_seq l hT ho hc hd (fun h1 k1 => ?_) (by simp only [List.size_toArray]; exact Nat.le_of_lt (small1000 (by omega))))
  rw [show vs.toArray.toList = vs by simp]
  refine wpAny_bind (wpAny_newList ?_)
  have hoL : (h1.push (seqObj "list" vs.toArray 0)).get? h1.objs.size = some (seqObj "list" vs.toArray 0) := Heap.get?_push_size _ rfl
  refine wpAny_bind (wpAny_holding (wpAny_call_entry slot_list_sort ⟨_, hoL, rfl⟩ entry_list_sort (list_sort_tree hoL hI h64 fun out ns' a1 a2 a3 => ⟨_, rfl, ?_⟩) (args_list_sort _)))
  refine wpAny_pure ⟨_, rfl, ?_⟩
  obtain ⟨e, he⟩ := sortedHeap_at (vs := vs) (out := out) hoL
  refine h h1 _ out.toList ns' e k1 (fun b u q => ?_) (by rw [Array.toArray_toList]; exact he) a1 a2 a3
  have hlt := Heap.lt_size q
  rw [sortedHeap_old (Nat.ne_of_lt hlt) (by rw [size_push']; exact Nat.lt_succ_of_lt hlt)]
  exact Heap.get?_push_of_some _ q
end
theorem vals_of_get : ∀ {xs : List V} {us : List Value}, xs.length = us.length → (∀ (i : Nat) u, us[i]? = some u → ∃ x, xs[i]? = some x ∧ RelV x u) → Vals xs us
  | [], [], _, _ => .nil
  | [], _ :: _, h, _ => by simp at h
  | _ :: _, [], h, _ => by simp at h
  | x :: xs, u :: us, h, f => by
    obtain ⟨y, e, r⟩ := f 0 u rfl
    cases (Option.some.inj e)
    exact .cons r (vals_of_get (by simpa using h) fun i v e => f (i + 1) v e)
section
variable {X : Cx}
theorem call_sortedI : CallR X (.builtin "sorted") (fun xs H Q => ∃ p ns, xs = [.ref p] ∧ (SqL X.K H p (List.map V.int ns) ∨ SqT X.K H p (List.map V.int ns)) ∧ ns.length < 64 ∧ ∀ ns' : List Int, ns'.Perm ns → ns'.Pairwise (· ≤ ·) → ∀ l, H l = none → Q (.ref l) (upd H l (.lst (ns'.map V.int)))) := by
  intro pins s σ H xs us Q I r h
  obtain ⟨p, ns, rfl, hq, h64, q⟩ := h
  obtain ⟨u, rfl, rx⟩ := vals1 r
  cases rx
  have fin : ∀ (h1 h2 : Heap) (vs' : List Value) (ns' : List Int) (e : Nat), (∀ b u, s.heap.get? b = some u → h1.get? b = some u) → (∀ b u, h1.get? b = some u → h2.get? b = some u) → h2.get? h1.objs.size = some (seqObj "list" vs'.toArray e) → IntsAre vs' ns' → ns'.Perm ns → ns'.Pairwise (· ≤ ·) → EP X pins σ Q (.ref h1.objs.size) { s with heap := h2 } := by
    intro h1 h2 vs' ns' e k1 k2 g a1 a2 a3
    have I1 : Inv X pins σ H { s with heap := h1 } := I.kept (t' := s.toks) k1
    have hz : (ns'.map V.int).length ≤ sizeLine := by rw [List.length_map, a2.length_eq]; exact Nat.le_of_lt (small1000 (by omega))
    have I2 : Inv X pins σ (upd H h1.objs.size (.lst (ns'.map V.int))) { s with heap := h2 } := I1.laid (t' := s.toks) k2 (Nat.le_refl _) (show ObjOk X.prog X.w _ _ _ (.lst (ns'.map V.int)) from ⟨hz, vs', e, vals_ints a1, g⟩)
    exact ⟨.ref h1.objs.size, _, I2, rfl, q ns' a2 a3 _ (I1.hok.fresh (Nat.le_refl _))⟩
  rcases hq with hq | hq
  · obtain ⟨its, r', pl, hz⟩ := I.list hq
    have hi := intsAre_of r'
    obtain ⟨o, ho, hc, n, hd⟩ := pl.isList
    exact sorted_seq (.inl rfl) ho hc hd hi (by rw [hi.length]; exact h64) fin
  · obtain ⟨its, r', pl, hz⟩ := I.tuple hq
    have hi := intsAre_of r'
    obtain ⟨o, ho, hc, n, hd⟩ := pl
    exact sorted_seq (.inr rfl) ho hc hd hi (by rw [hi.length]; exact h64) fin
theorem call_rangeV : CallR X (.type "range") (fun xs H Q => ∃ j : Int, xs = [.int j] ∧ ∀ r, H r = none → Q (.ref r) (upd H r (.rng 0 j))) := by
  intro pins s σ H xs us Q I r h
  obtain ⟨j, rfl, q⟩ := h
  obtain ⟨u, rfl, t, rfl⟩ := vals1 r
  refine call_range_1 ⟨.ref s.heap.objs.size, _, I.laid (fun b o e => Heap.get?_push_of_some _ e) (Nat.le_refl _) ?_, rfl, q _ (I.hok.fresh (Nat.le_refl _))⟩
  exact ⟨_, _, _, Heap.get?_push_size _ rfl⟩
def upL (n : Nat) : List Int := (List.range n).map fun (i : Nat) => (i : Int)
theorem call_listRng (hc : X.calm = true) : CallR X (.type "list") (fun xs H Q => ∃ p n, xs = [.ref p] ∧ H p = some (.rng 0 (Int.ofNat n)) ∧ n ≤ 1000 ∧ ∀ l, H l = none → Q (.ref l) (upd H l (.lst ((upL n).map V.int)))) := by
  intro pins s σ H xs us Q I r h
  obtain ⟨p, n, rfl, hp, hn, q⟩ := h
  obtain ⟨u, rfl, rx⟩ := vals1 r
  cases rx
  obtain ⟨t, u, v, e⟩ := I.hok p _ hp
  have hs : Builtin.Range.small 0 (Int.ofNat n) 1 = true := by
    have z : ∀ m : Fin 1001, Builtin.Range.small 0 (Int.ofNat m.val) 1 = true := by decide +kernel
    exact z ⟨n, by omega⟩
  have hsz : Builtin.Range.rangeSize 0 (Int.ofNat n) 1 = n := by
    unfold Builtin.Range.rangeSize
    rw [if_pos (by decide)]
    split
    · show (Int.ofNat n - 0 - 1) / 1 + 1 = _; simp; 
    · simp at *; omega
  refine call_list_range (I.ok.hd hc) e hs hsz (by omega) fun h' tk acc' c' k g it => ?_
  have rv : Vals ((upL n).map V.int) acc'.toList := by
    refine vals_of_get (by simp [upL, it.1]) fun i v e => ?_
    rw [Array.getElem?_toList] at e
    obtain ⟨tt, rfl⟩ := it.2 i v e
    have hi : i < n := by rw [← it.1]; exact (Array.getElem?_eq_some_iff.mp e).1
    exact ⟨.int i, by simp [upL, hi], tt, by simp⟩
  exact ⟨.ref s.heap.objs.size, _, I.laid k (Nat.le_refl _) (show ObjOk X.prog X.w _ _ _ (.lst _) from ⟨by simp [upL]; exact Nat.le_of_lt (small1000 hn), acc'.toList, c', rv, by rw [Array.toArray_toList]; exact g⟩), rfl, q _ (I.hok.fresh (Nat.le_refl _))⟩
def rCount : V → List V → Hp → VK → Prop := fun x ys H Q => ∃ a o xs y, x = .ref a ∧ ys = [y] ∧ H a = some (.frz o (.tup xs)) ∧ xs.all flatV = true ∧ flatV y = true ∧ Q (.int (xs.countP fun z => eqV z y)) H
def tBMf (r : V → List V → Hp → VK → Prop) (to : TE) (t : TA) : TE := fun σ H Q => to σ H fun x H1 => (∃ a o xs, x = .ref a ∧ H1 a = some (.frz o (.tup xs)) ∧ o.dict = none) ∧ t σ H1 fun ys H2 => r x ys H2 Q
theorem mr_popAt : MtR X "list.pop" rPopAt := mt_popAt
end
end L2
namespace L2
open PySem PySem.Spec PyProof.Rows
theorem ps_setC {X : Cx} {i : Nat} {x : Str} {elt tg iter : Expr} {scope : Scope} {cl : List (Str × Addr)} {pos pos' lpos : Pos} {own fv : List Str} {js : List Nat} {wi : TI} {g : TG} {te : TE}
    (hN : X.N.Nodup) (hx1 : X.N[i]? = some x) (hx : Loc X.env.scope x) (hf : X.fn x = true ∨ X.env.scope.names.lookup x = some .local)
    (hc : X.calm = true) (hi : PI X tg iter wi) (hclos : closureFor scope X.env = pure cl) (hcell : ∀ y ∈ scope.names, y.2 ≠ .cell) (hkind : scope.kind = .function)
    (hnames : ∀ y ∈ scope.names, y.2 = .local → scope.names.lookup y.1 = some .local)
    (hcl : ∀ x c, cl.lookup x = some c → X.env.cells.lookup x = some c)
    (hhas : ∀ x, ((relabel scope X.env).names.lookup x = some .cell ∨ (relabel scope X.env).names.lookup x = some .free) → ∃ c, cl.lookup x = some c)
    (hlen : js.length = fv.length) (hcap : ∀ (i : Nat) x j, fv[i]? = some x → js[i]? = some j → Cap X scope cl x j)
    (hg : ∀ (C : Addr) (ex : List Addr) (s : Shared) (H : Hp), PG (cxComp X (own ++ fv) scope cl C ex s H) tg g)
    (he : ∀ (C : Addr) (ex : List Addr) (s : Shared) (H : Hp), PE (cxComp X (own ++ fv) scope cl C ex s H) elt te)
    (hsw : swapsWith (.ListComp elt [⟨tg, iter, [], 0⟩] scope lpos) (some (.Name x pos')) pos.line X.env = pure true := by rfl)
    (hs : ∀ x, foldedSetIterable iter X.env x = pure x := by intro _; rfl) :
    PS X (.Assign [.Name x pos'] (.ListComp elt [⟨tg, iter, [], 0⟩] scope lpos) pos) (tAsg (tComp wi own.length js g te) (gName i)) := by
  intro pins s σ H D I h
  rw [exec_Assign_Name_used _ _ _ _ hsw]
  refine wpAny_bind (wpAny_standAt ?_)
  rw [arm_evalThenUse_ListComp]
  have core := comp_core (use := some (assign (.Name x pos') X.env)) (QQ := fun _ s' => SP X pins D .next s') (fpos := firstIterPos [⟨tg, iter, [], 0⟩] lpos) (pos := lpos) hc hi hclos hcell hkind hnames hcl hhas hlen hcap hg he hs I h (fun a C s5 H5 fl I5 zC zL zS zc zp ⟨m, hn⟩ q => ?_)
  · refine wpAny_bind (wpAny_bind (thn core fun _ s' hq => ?_))
    exact wpAny_pure (wpAny_pure hq)
  · show wpAny (model X.prog X.w) X.A (assign (.Name x pos') X.env (.ref a)) _ X.xe s5
    show wpAny (model X.prog X.w) X.A (do standAt pos'; bindName X.env x (.ref a)) _ X.xe s5
    refine wpAny_bind (wpAny_standAt ?_)
    refine bindName_ ?_
    refine store_ok2 I5 hN hx1 hx (show RelV (.ref a) (.ref a) from rfl) (fun s6 I6 ⟨b, sb, hb⟩ => ?_) hf
    have cb : C ≠ b := by
      rcases hb with rfl | hb
      · exact zL
      · exact fun z => zc x b hb z.symm
    obtain ⟨o, es, ep, e, r⟩ := hn
    refine ⟨m, ⟨o, es, ep, (sb.2 C cb).trans e, r⟩, fun h' sc => ?_⟩
    exact ⟨_, H5, I6.turned (t' := s6.toks) (it := C) (fun d o nd e => sc.extBut d o nd e) zC zL (.inr zS) zc zp, q⟩
theorem ps_setC0 {X : Cx} {i : Nat} {x : Str} {elt tg iter : Expr} {scope : Scope} {pos pos' lpos : Pos} {own : List Str} {wi : TI} {g : TG} {te : TE}
    (hN : X.N.Nodup) (hx1 : X.N[i]? = some x) (hx : Loc X.env.scope x) (hf : X.fn x = true ∨ X.env.scope.names.lookup x = some .local)
    (hc : X.calm = true) (hi : PI X tg iter wi) (hcell : ∀ y ∈ scope.names, y.2 ≠ .cell) (hfree : ∀ y ∈ scope.names, y.2 ≠ .free) (hkind : scope.kind = .function)
    (hnames : ∀ y ∈ scope.names, y.2 = .local → scope.names.lookup y.1 = some .local)
    (hg : ∀ (C : Addr) (ex : List Addr) (s : Shared) (H : Hp), PG (cxComp X own scope [] C ex s H) tg g)
    (he : ∀ (C : Addr) (ex : List Addr) (s : Shared) (H : Hp), PE (cxComp X own scope [] C ex s H) elt te)
    (hsw : swapsWith (.ListComp elt [⟨tg, iter, [], 0⟩] scope lpos) (some (.Name x pos')) pos.line X.env = pure true := by rfl)
    (hs : ∀ x, foldedSetIterable iter X.env x = pure x := by intro _; rfl) :
    PS X (.Assign [.Name x pos'] (.ListComp elt [⟨tg, iter, [], 0⟩] scope lpos) pos) (tAsg (tComp wi own.length [] g te) (gName i)) := by
  refine ps_setC (own := own) (fv := []) (js := []) (cl := []) hN hx1 hx hf hc hi (closureFor_none hfree) hcell hkind hnames (fun x c h => by cases h) (fun x h => ?_) rfl (fun i x j h => by simp at h) (by simpa using hg) (by simpa using he) hsw hs
  rw [relabel_none hfree] at h
  rcases h with h | h
  · exact absurd rfl (hcell _ (PySem.mem_of_lookup h))
  · exact absurd rfl (hfree _ (PySem.mem_of_lookup h))
end L2
namespace L2
open PySem PySem.Spec PyProof.Rows
section
variable {X : Cx}
def startsB (x y : Str) : Bool := decide (0 + y.length ≤ x.length) && Builtin.Str.subAt x y 0
def rStarts : V → List V → Hp → VK → Prop := fun x xs H Q => ∃ z y, x = .str z ∧ xs = [.str y] ∧ Q (.bl (startsB z y)) H
def rSlStrX : V → Option Int → Option Int → Hp → VK → Prop := fun x lo hi H Q => ∃ z, x = .str z ∧ z.length ≤ 20000 ∧ Q (.str (Txt.slice z lo hi)) H
end
end L2
namespace L2
open PySem PySem.Spec PyProof.Rows
section
variable {κ : Type} [DecidableEq κ]
def valV (kvs : List (κ × V)) (k : κ) : Option V := (kvs.find? fun kv => decide (kv.1 = k)).map (·.2)
def putK (kvs : List (κ × V)) (k : κ) (v : V) : List (κ × V) :=
  if (kvs.any fun kv => decide (kv.1 = k)) = true then kvs.map (fun kv => if kv.1 = k then (kv.1, v) else kv) else kvs ++ [(k, v)]
def dropK (kvs : List (κ × V)) (k : κ) : List (κ × V) := kvs.filter fun kv => decide (kv.1 ≠ k)
theorem valV_pos {p : κ × V} {r : List (κ × V)} {k : κ} (e : p.1 = k) : valV (p :: r) k = some p.2 := by simp [valV, List.find?_cons, e]
theorem valV_neg {p : κ × V} {r : List (κ × V)} {k : κ} (e : ¬ p.1 = k) : valV (p :: r) k = valV r k := by simp [valV, List.find?_cons, e]
theorem RelO.getD {o : Option V} {u : Option Value} {d : V} {d' : Value} (r : RelO o u) (rd : RelV d d') : RelV (o.getD d) (u.getD d') := by
  cases o with
  | none => cases u with
    | none => exact rd
    | some _ => exact (show False from r).elim
  | some _ => cases u with
    | none => exact (show False from r).elim
    | some _ => exact r
theorem KV.val {kvs : List (κ × V)} {vs : List (κ × Value)} (r : KV kvs vs) (k : κ) : RelO (valV kvs k) (valueAt vs k) := by
  unfold KV at r
  induction r with
  | nil => exact True.intro
  | @cons p q ps qs h t ih =>
    obtain ⟨h1, h2⟩ := h
    by_cases e : p.1 = k
    · have e' : q.1 = k := h1.symm.trans e
      have b : valueAt (q :: qs) k = some q.2 := by simp [valueAt, List.find?_cons, e']
      rw [valV_pos e, b]; exact h2
    · have e' : ¬ q.1 = k := fun z => e (h1.trans z)
      have b : valueAt (q :: qs) k = valueAt qs k := by simp [valueAt, List.find?_cons, e']
      rw [valV_neg e, b]; exact ih
theorem KV.any {kvs : List (κ × V)} {vs : List (κ × Value)} (r : KV kvs vs) (k : κ) : (kvs.any fun kv => decide (kv.1 = k)) = vs.any fun kv => decide (kv.1 = k) := by
  unfold KV at r
  induction r with
  | nil => rfl
  | cons h t ih => rw [List.any_cons, List.any_cons, ih, h.1]
theorem KV.drop {kvs : List (κ × V)} {vs : List (κ × Value)} (r : KV kvs vs) (k : κ) : KV (dropK kvs k) (without vs k) := by
  unfold KV at r ⊢
  unfold dropK without
  induction r with
  | nil => exact .nil
  | @cons p q ps qs h t ih =>
    obtain ⟨h1, h2⟩ := h
    rw [List.filter_cons, List.filter_cons]
    by_cases e : p.1 = k
    · have a : ¬ decide (p.1 ≠ k) = true := by simp [e]
      have b : ¬ decide (q.1 ≠ k) = true := by simp [h1.symm.trans e]
      rw [if_neg a, if_neg b]; exact ih
    · have e' : ¬ q.1 = k := fun z => e (h1.trans z)
      have a : decide (p.1 ≠ k) = true := by simp [e]
      have b : decide (q.1 ≠ k) = true := by simp [e']
      rw [if_pos a, if_pos b]; exact .cons ⟨h1, h2⟩ ih
theorem KV.length {kvs : List (κ × V)} {vs : List (κ × Value)} (r : KV kvs vs) : kvs.length = vs.length := Paired.length r
end
abbrev KT (H : Hp) : List (List Key × V) → List (List Key × Addr × Value) → Prop := Paired fun p q => p.1 = q.1 ∧ H q.2.1 = some (.tup (p.1.map kV)) ∧ RelV p.2 q.2.2
theorem KT.val {H : Hp} {kvs : List (List Key × V)} {xs : List (List Key × Addr × Value)} (r : KT H kvs xs) (k : List Key) : RelO (valV kvs k) ((atKey xs k).map (·.2)) := by
  induction r with
  | nil => exact True.intro
  | @cons p q ps qs h t ih =>
    obtain ⟨h1, _, h2⟩ := h
    by_cases e : p.1 = k
    · have e' : q.1 = k := h1.symm.trans e
      have b : atKey (q :: qs) k = some q.2 := by simp [atKey, List.find?_cons, e']
      rw [valV_pos e, b]; exact h2
    · have e' : ¬ q.1 = k := fun z => e (h1.trans z)
      have b : atKey (q :: qs) k = atKey qs k := by simp [atKey, List.find?_cons, e']
      rw [valV_neg e, b]; exact ih
theorem KT.keeps {H H' : Hp} {kvs : List (List Key × V)} {xs : List (List Key × Addr × Value)} (r : KT H kvs xs) (ht : ∀ b ys, H b = some (.tup ys) → H' b = some (.tup ys)) : KT H' kvs xs :=
  Paired.mapP r fun _ _ z => ⟨z.1, ht _ _ z.2.1, z.2.2⟩
section
variable {P : Program} {w : World} {H : Hp} {h : Heap} {a : Addr}
end
def DGet (H : Hp) (a : Addr) (y : V) (r : Option V) : Prop :=
  (∃ kvs k, Rd H a (.dK kvs) ∧ y = kV k ∧ r = valV kvs k) ∨ ∃ kvs k b, Rd H a (.dT kvs) ∧ y = .ref b ∧ H b = some (.tup (k.map kV)) ∧ r = valV kvs k
def DPut (H : Hp) (a : Addr) (y v : V) (H' : Hp) : Prop :=
  (∃ kvs k, H a = some (.dK kvs) ∧ y = kV k ∧ kvs.length < sizeLine ∧ H' = upd H a (.dK (putK kvs k v))) ∨
  ∃ kvs k b, H a = some (.dT kvs) ∧ y = .ref b ∧ H b = some (.tup (k.map kV)) ∧ kvs.length < sizeLine ∧ H' = upd H a (.dT (putK kvs k v))
theorem DGet.k {H : Hp} {a : Addr} {kvs : List (Key × V)} {k : Key} (e : H a = some (.dK kvs)) : DGet H a (kV k) (valV kvs k) := .inl ⟨kvs, k, .inl e, rfl, rfl⟩
theorem DGet.t {H : Hp} {a b : Addr} {kvs : List (List Key × V)} {k : List Key} (e : H a = some (.dT kvs)) (eb : H b = some (.tup (k.map kV))) : DGet H a (.ref b) (valV kvs k) := .inr ⟨kvs, k, b, .inl e, rfl, eb, rfl⟩
theorem DPut.k {H : Hp} {a : Addr} {kvs : List (Key × V)} {k : Key} {v : V} (e : H a = some (.dK kvs)) (hl : kvs.length < sizeLine) : DPut H a (kV k) v (upd H a (.dK (putK kvs k v))) := .inl ⟨kvs, k, e, rfl, hl, rfl⟩
theorem DPut.t {H : Hp} {a b : Addr} {kvs : List (List Key × V)} {k : List Key} {v : V} (e : H a = some (.dT kvs)) (eb : H b = some (.tup (k.map kV))) (hl : kvs.length < sizeLine) :
    DPut H a (.ref b) v (upd H a (.dT (putK kvs k v))) := .inr ⟨kvs, k, b, e, rfl, eb, hl, rfl⟩
section
variable {X : Cx} {pins : List (Addr × Obj)} {σ : St} {H : Hp} {s : Shared} {a : Addr} {y v : V} {u r : Value} {o : Option V} {A : Around} {E : Value → Shared → Prop}
end
section
variable {X : Cx} {pins : List (Addr × Obj)} {σ : St} {H : Hp} {s : Shared} {a : Addr} {kvs : List (Key × V)} {k : Key} {u : Value} {A : Around} {E : Value → Shared → Prop}
end
def tDIn (ty td : TE) : TE := fun σ H Q => ty σ H fun y H1 => td σ H1 fun x H2 => ∃ a o, x = .ref a ∧ DGet H2 a y o ∧ Q (.bl o.isSome) H2
def sDPut (td ty tv : TE) : TS := fun D σ H => tv σ H fun v H1 => td σ H1 fun x H2 => ty σ H2 fun y H3 => ∃ a H4, x = .ref a ∧ DPut H3 a y v H4 ∧ D.nx σ H4
section
variable {X : Cx} {o i e value : Expr} {pos pos' tpos : Pos} {td ty tv : TE}
end
def tDNewK : TE := fun _ H Q => ∀ p, H p = none → Q (.ref p) (upd H p (.dK []))
section
variable {X : Cx} {pos : Pos}
end
def mergeK (kvs more : List (Key × V)) : List (Key × V) := more.foldl (fun acc kv => putK acc kv.1 kv.2) kvs
structure M1 (X : Cx) (o : Expr) (m : Str) (apos : Pos) (e : Expr) (cpos : Pos) : Prop where
  base : attributeBase o m X.env (eval o X.env) = eval o X.env
  few : ((backTo cpos (starEach [e] X.env)).all (fun x => !x.1) && (backToKw cpos (keywordEach [] X.env)).all (fun x => x.1.isSome)
    && decide (([e] : List Expr).length + ([] : List Keyword).length + (if ([] : List Keyword).isEmpty then 0 else 1) < 30)) = true
  line : (apos.endLine == cpos.line) = true
  trees : backTo cpos (starEach [e] X.env) = [(false, eval e X.env)]
structure M2 (X : Cx) (o : Expr) (m : Str) (apos : Pos) (e f : Expr) (cpos : Pos) : Prop where
  base : attributeBase o m X.env (eval o X.env) = eval o X.env
  few : ((backTo cpos (starEach [e, f] X.env)).all (fun x => !x.1) && (backToKw cpos (keywordEach [] X.env)).all (fun x => x.1.isSome)
    && decide (([e, f] : List Expr).length + ([] : List Keyword).length + (if ([] : List Keyword).isEmpty then 0 else 1) < 30)) = true
  line : (apos.endLine == cpos.line) = true
  trees : backTo cpos (starEach [e, f] X.env) = [(false, eval e X.env), (false, eval f X.env)]
def IsD (H : Hp) (a : Addr) : Prop := (∃ kvs, Rd H a (.dK kvs)) ∨ ∃ kvs, Rd H a (.dT kvs)
section
variable {X : Cx} {pins : List (Addr × Obj)} {σ : St} {H : Hp} {s : Shared} {a : Addr} {y d : V} {u r : Value} {o : Option V} {A : Around} {E : Value → Shared → Prop}
end
def tDGet1 (td ty : TE) : TE := fun σ H Q => td σ H fun x H1 => ∃ a, x = .ref a ∧ IsD H1 a ∧ ty σ H1 fun y H2 => ∃ o, DGet H2 a y o ∧ Q (o.getD .non) H2
section
variable {X : Cx} {o e f : Expr} {apos cpos : Pos} {td ty tx : TE}
end
section
variable {X : Cx} {pins : List (Addr × Obj)} {σ : St} {H : Hp} {s : Shared} {a : Addr} {kvs : List (Key × V)} {A : Around} {E : Value → Shared → Prop}
end
section
variable {X : Cx} {pins : List (Addr × Obj)} {σ : St} {H : Hp} {s : Shared} {a : Addr} {y : V} {u : Value} {A : Around} {E : Value → Shared → Prop}
end
end L2
namespace L2
open PySem PySem.Spec PyProof.Rows
section
variable {X : Cx}
end
section
variable {κ : Type} [DecidableEq κ]
end
end L2
namespace L2
open PySem PySem.Spec PyProof.Rows
def KTab (P : Program) (w : World) (K : PySem.W.Frag) (d : Addr) (kvs : List (Str × Addr)) : Prop := (d == sysModules) = false ∧ ∀ h : Heap, K.In h → h.DictOf (mixKind P w) d (kvs.map fun p => ((Sum.inr p.1 : Key), Value.ref p.2))
def entT (pm : Params) (l : List (Str × Tok × Addr)) : List DictEntry := l.map fun p => ⟨PyData.keyHash pm p.1, .str p.1 p.2.1, .ref p.2.2⟩
theorem KTab.mk {P : Program} {w : World} {K : PySem.W.Frag} {d : Addr} {l : List (Str × Tok × Addr)} {es : Array DictEntry} {n : Nat} (hd : (d == sysModules) = false) (hl : K.lookup d = some { cls := .type "dict", data := .dict es n }) (he : es.toList = entT w.params l) (nd : (l.map (·.1)).Nodup) :
    KTab P w K d (l.map fun p => (p.1, p.2.2)) := by
  refine ⟨hd, fun h KI => ⟨_, es, n, KI d _ hl, ⟨rfl, rfl, rfl⟩, rfl, ?_, ?_, ?_⟩⟩
  · intro e hm
    have hm : e ∈ es.toList := Array.mem_toList_iff.mpr hm
    rw [he] at hm
    obtain ⟨p, _, rfl⟩ := List.mem_map.mp hm
    exact ⟨Sum.inr p.1, keyIs_str p.1 p.2.1, rfl⟩
  · rw [he]
    clear he nd hl
    induction l with
    | nil => exact .nil
    | cons p r ih => exact .cons (keyIs_str p.1 p.2.1) rfl ih
  · rw [List.map_map, List.map_map]
    have e : ((fun x : Key × Value => x.1) ∘ (fun p : Str × Addr => ((Sum.inr p.1 : Key), Value.ref p.2))) ∘ (fun p : Str × Tok × Addr => (p.1, p.2.2)) = (fun x : Str => (Sum.inr x : Key)) ∘ fun p => p.1 := rfl
    rw [← List.map_map] at *
    have z : (l.map fun p => (Sum.inr p.1 : Key)).Nodup := by
      have : (l.map fun p => (Sum.inr p.1 : Key)) = (l.map (·.1)).map (fun x : Str => (Sum.inr x : Key)) := by rw [List.map_map]; rfl
      rw [this]
      exact List.Pairwise.map _ (fun a b (h : a ≠ b) z => h (Sum.inr.inj z)) nd
    simpa [List.map_map, Function.comp_def] using z
section
variable {X : Cx}
def rKTab (kvs : List (Str × Addr)) : V → Hp → VK → Prop := fun y H Q => ∃ x a, y = .str x ∧ kvs.lookup x = some a ∧ Q (.ref a) H
def tKTab (kvs : List (Str × Addr)) (te : TE) : TE := fun σ H Q => te σ H fun y H1 => rKTab kvs y H1 Q
def tKIn (kvs : List (Str × Addr)) (te : TE) : TE := fun σ H Q => te σ H fun y H1 => ∃ x, y = .str x ∧ Q (.bl (kvs.lookup x).isSome) H1
end
end L2
namespace L2
open PySem PySem.Spec PyProof.Rows
section
variable {pg : Program} {wd : World} {B : Around} {X0 : Value → Shared → Prop} {s0 : Shared}
end
def ItzM (K : PySem.W.Frag) (a b : Addr) : It := ⟨fun i H => ∃ xs ys x y, SqL K H a xs ∧ SqT K H b ys ∧ xs[i]? = some x ∧ ys[i]? = some y,
  fun i H v H' => ∃ T x y, v = .ref T ∧ H T = none ∧ H' = upd H T (.tup [x, y]) ∧ ∀ xs ys, SqL K H a xs → SqT K H b ys → xs[i]? = some x ∧ ys[i]? = some y, fun i H => ∃ xs ys, SqL K H a xs ∧ SqT K H b ys ∧ (xs.length ≤ i ∨ ys.length ≤ i)⟩
section
variable {X : Cx} {es : List Expr} {x1 : Nat} {pp : Pos}
def iZipM (K : PySem.W.Frag) (ta : TA) : TI := fun σ H R => ta σ H fun vs H1 => ∃ a b xs ys, vs = [.ref a, .ref b] ∧ SqL K H1 a xs ∧ SqT K H1 b ys ∧ R (ItzM K a b) H1
end
def LoopZM (K : PySem.W.Frag) (g : TG) (tb : TS) (D : Ends) (σ : St) (vs : List V) (H1 : Hp) : Prop := ∃ a b xs ys, vs = [.ref a, .ref b] ∧ SqL K H1 a xs ∧ SqT K H1 b ys ∧ ∃ W : Nat → Nat → St → Hp → Prop, (∃ m, W 0 m σ H1) ∧ ∀ i m σ H, W i m σ H →
  ((ItzM K a b).stop i H ∧ D.nx σ H) ∨ ((ItzM K a b).go i H ∧ ∃ N : St → Hp → Prop, (∀ σ' H', N σ' H' → ∃ m', m' < m ∧ W (i + 1) m' σ' H') ∧ ∀ x H', (ItzM K a b).yld i H x H' → g x σ H' fun σ2 H2 => tb { D with nx := N, ct := N, bk := D.nx } σ2 H2)
theorem for_eqZM {K : PySem.W.Frag} {ta : TA} {g : TG} {tb : TS} {D : Ends} {σ : St} {H : Hp} : tFor (iZipM K ta) g tb D σ H = ta σ H fun vs H1 => LoopZM K g tb D σ vs H1 := rfl
theorem LoopZM.mk {K : PySem.W.Frag} {a b : Addr} {xs ys : List V} {g : TG} {tb : TS} {D : Ends} {σ : St} {H : Hp} (n : Nat) (hn : n = min xs.length ys.length) (h1 : SqL K H a xs) (h2 : SqT K H b ys) (Pv : Nat → St → Hp → Prop) (h0 : Pv 0 σ H) (hl : ∀ i σ H, i ≤ n → Pv i σ H → SqL K H a xs ∧ SqT K H b ys)
    (hs : ∀ i x y σ H T, i < n → xs[i]? = some x → ys[i]? = some y → Pv i σ H → H T = none → g (.ref T) σ (upd H T (.tup [x, y])) fun σ2 H2 => tb { D with nx := Pv (i + 1), ct := Pv (i + 1), bk := D.nx } σ2 H2) (hd : ∀ σ H, Pv n σ H → D.nx σ H) :
    LoopZM K g tb D σ [.ref a, .ref b] H := by
  subst hn
  refine ⟨a, b, xs, ys, rfl, h1, h2, fun i m σ H => m = min xs.length ys.length - i ∧ i ≤ min xs.length ys.length ∧ Pv i σ H, ⟨_, rfl, Nat.zero_le _, h0⟩, ?_⟩
  rintro i m σ H ⟨rfl, hi, p⟩
  obtain ⟨k1, k2⟩ := hl i σ H hi p
  by_cases hlt : i < min xs.length ys.length
  · have l1 : i < xs.length := by omega
    have l2 : i < ys.length := by omega
    refine .inr ⟨⟨xs, ys, _, _, k1, k2, List.getElem?_eq_getElem l1, List.getElem?_eq_getElem l2⟩, Pv (i + 1), fun σ' H' p' => ⟨min xs.length ys.length - (i + 1), by omega, rfl, hlt, p'⟩, fun v H' yy => ?_⟩
    obtain ⟨T, x, y, rfl, hT, rfl, ex⟩ := yy
    obtain ⟨ex1, ex2⟩ := ex xs ys k1 k2
    exact hs i x y σ H T hlt ex1 ex2 p hT
  · have e : i = min xs.length ys.length := by omega
    exact .inl ⟨⟨xs, ys, k1, k2, by omega⟩, hd σ H (e ▸ p)⟩
def CompZM (K : PySem.W.Frag) (k : Nat) (js : List Nat) (g : TG) (te : TE) (σ : St) (vs : List V) (H1 : Hp) (Q : VK) : Prop := ∃ a b xs ys, vs = [.ref a, .ref b] ∧ SqL K H1 a xs ∧ SqT K H1 b ys ∧ ∃ W : Nat → Nat → List V → St → Hp → Prop, (∃ m, W 0 m [] (compSt k js σ) H1) ∧ ∀ i m zs σ' H', W i m zs σ' H' →
    ((ItzM K a b).stop i H' ∧ ∀ p, H' p = none → Q (.ref p) (upd H' p (.lst zs))) ∨
    ((ItzM K a b).go i H' ∧ zs.length < sizeLine ∧ ∃ N : List V → St → Hp → Prop, (∀ zs σ2 H2, N zs σ2 H2 → ∃ m', m' < m ∧ W (i + 1) m' zs σ2 H2) ∧ ∀ x H2, (ItzM K a b).yld i H' x H2 → g x σ' H2 fun σ3 H3 => te σ3 H3 fun v H4 => N (zs ++ [v]) σ3 H4)
theorem comp_eqZM {K : PySem.W.Frag} {k : Nat} {js : List Nat} {ta : TA} {g : TG} {te : TE} {σ : St} {H : Hp} {Q : VK} : tComp (iZipM K ta) k js g te σ H Q = ta σ H fun vs H1 => CompZM K k js g te σ vs H1 Q := rfl
theorem CompZM.mk {K : PySem.W.Frag} {a b : Addr} {xs ys : List V} {k : Nat} {js : List Nat} {g : TG} {te : TE} {Q : VK} {σ : St} {H : Hp} (n : Nat) (hn : n = min xs.length ys.length) (h1 : SqL K H a xs) (h2 : SqT K H b ys) (Pv : Nat → List V → St → Hp → Prop) (h0 : Pv 0 [] (compSt k js σ) H) (hl : ∀ i zs σ H, i ≤ n → Pv i zs σ H → SqL K H a xs ∧ SqT K H b ys)
    (hs : ∀ i x y zs σ H T, i < n → xs[i]? = some x → ys[i]? = some y → Pv i zs σ H → H T = none → zs.length < sizeLine ∧ g (.ref T) σ (upd H T (.tup [x, y])) fun σ3 H3 => te σ3 H3 fun v H4 => Pv (i + 1) (zs ++ [v]) σ3 H4) (hz : ∀ zs σ H, Pv n zs σ H → ∀ p, H p = none → Q (.ref p) (upd H p (.lst zs))) (hlen : ∀ i zs σ H, Pv i zs σ H → zs.length < sizeLine) :
    CompZM K k js g te σ [.ref a, .ref b] H Q := by
  subst hn
  refine ⟨a, b, xs, ys, rfl, h1, h2, fun i m zs σ H => m = min xs.length ys.length - i ∧ i ≤ min xs.length ys.length ∧ Pv i zs σ H, ⟨_, rfl, Nat.zero_le _, h0⟩, ?_⟩
  rintro i m zs σ H ⟨rfl, hi, p⟩
  obtain ⟨k1, k2⟩ := hl i zs σ H hi p
  by_cases hlt : i < min xs.length ys.length
  · have l1 : i < xs.length := by omega
    have l2 : i < ys.length := by omega
    refine .inr ⟨⟨xs, ys, _, _, k1, k2, List.getElem?_eq_getElem l1, List.getElem?_eq_getElem l2⟩, hlen _ _ _ _ p, Pv (i + 1), fun zs' σ' H' p' => ⟨min xs.length ys.length - (i + 1), by omega, rfl, hlt, p'⟩, fun v H' yy => ?_⟩
    obtain ⟨T, x, y, rfl, hT, rfl, ex⟩ := yy
    obtain ⟨ex1, ex2⟩ := ex xs ys k1 k2
    exact (hs i x y zs σ H T hlt ex1 ex2 p hT).2
  · have e : i = min xs.length ys.length := by omega
    exact .inl ⟨⟨xs, ys, k1, k2, by omega⟩, hz zs σ H (e ▸ p)⟩
def CompTI (K : PySem.W.Frag) (k : Nat) (js : List Nat) (g : TG) (tc : TT) (te : TE) (σ : St) (v : V) (H1 : Hp) (Q : VK) : Prop := ∃ a, v = .ref a ∧ (∃ xs, SqT K H1 a xs) ∧ ∃ W : Nat → Nat → List V → St → Hp → Prop, (∃ m, W 0 m [] (compSt k js σ) H1) ∧ ∀ i m zs σ' H', W i m zs σ' H' →
    ((Itt K a).stop i H' ∧ ∀ p, H' p = none → Q (.ref p) (upd H' p (.lst zs))) ∨
    ((Itt K a).go i H' ∧ zs.length < sizeLine ∧ ∃ N : List V → St → Hp → Prop, (∀ zs σ2 H2, N zs σ2 H2 → ∃ m', m' < m ∧ W (i + 1) m' zs σ2 H2) ∧ ∀ x H2, (Itt K a).yld i H' x H2 → g x σ' H2 fun σ3 H3 => tc σ3 H3 fun b H4 => if b = true then te σ3 H4 fun v H5 => N (zs ++ [v]) σ3 H5 else N zs σ3 H4)
theorem comp_eqTI {K : PySem.W.Frag} {k : Nat} {js : List Nat} {tx : TE} {g : TG} {tc : TT} {te : TE} {σ : St} {H : Hp} {Q : VK} : tCompI (iTup K tx) k js g tc te σ H Q = tx σ H fun v H1 => CompTI K k js g tc te σ v H1 Q := rfl
theorem CompTI.mk {K : PySem.W.Frag} {a : Addr} {xs : List V} {k : Nat} {js : List Nat} {g : TG} {tc : TT} {te : TE} {Q : VK} {σ : St} {H : Hp} (h1 : SqT K H a xs) (Pv : Nat → List V → St → Hp → Prop) (h0 : Pv 0 [] (compSt k js σ) H) (hl : ∀ i zs σ H, i ≤ xs.length → Pv i zs σ H → SqT K H a xs ∧ zs.length < sizeLine)
    (hs : ∀ i x zs σ H, xs[i]? = some x → Pv i zs σ H → g x σ H fun σ3 H3 => tc σ3 H3 fun b H4 => if b = true then te σ3 H4 fun v H5 => Pv (i + 1) (zs ++ [v]) σ3 H5 else Pv (i + 1) zs σ3 H4) (hz : ∀ zs σ H, Pv xs.length zs σ H → ∀ p, H p = none → Q (.ref p) (upd H p (.lst zs))) :
    CompTI K k js g tc te σ (.ref a) H Q := by
  refine ⟨a, rfl, ⟨xs, h1⟩, fun i m zs σ H => m = xs.length - i ∧ i ≤ xs.length ∧ Pv i zs σ H, ⟨_, rfl, Nat.zero_le _, h0⟩, ?_⟩
  rintro i m zs σ H ⟨rfl, hi, p⟩
  obtain ⟨k1, k2⟩ := hl i zs σ H hi p
  by_cases hlt : i < xs.length
  · refine .inr ⟨⟨xs, _, k1, List.getElem?_eq_getElem hlt⟩, k2, Pv (i + 1), fun zs' σ' H' p' => ⟨xs.length - (i + 1), by omega, rfl, hlt, p'⟩, fun v H' yy => ?_⟩
    obtain ⟨rfl, ex⟩ := yy
    exact hs i v zs σ _ (ex xs k1) p
  · have e : i = xs.length := by omega
    exact .inl ⟨⟨xs, k1, by omega⟩, hz zs σ H (e ▸ p)⟩
end L2
namespace L2
open PySem PySem.Spec PyProof.Rows
section
variable {X : Cx}
def rJoinD (K : PySem.W.Frag) : V → List V → Hp → VK → Prop := fun x xs H Q => ∃ (z : Str) (l : Addr) (ys : List Str), x = .str z ∧ z.length = 0 ∧ xs = [.ref l] ∧ SqL K H l (ys.map V.str) ∧ ys.length ≤ 100 ∧ (∀ y ∈ ys, okS 10 y) ∧ (okS 1000 (Builtin.Str.glued z ys) → Q (.str (Builtin.Str.glued z ys)) H)
end
theorem cl_sub3 {cells : List (Str × Addr)} {y z u : Str} {a b d : Addr} (h : cells.lookup y = some a) (h2 : cells.lookup z = some b) (h3 : cells.lookup u = some d) : ∀ x c, [(y, a), (z, b), (u, d)].lookup x = some c → cells.lookup x = some c := fun x c e => by
  rcases List.mem_cons.mp (PySem.mem_of_lookup e) with q | q
  · cases q; exact h
  · rcases List.mem_cons.mp q with q | q
    · cases q; exact h2
    · cases List.mem_singleton.mp q; exact h3
end L2
namespace L2
open PySem PySem.Spec PyProof.Rows
structure FunD (K : PySem.W.Frag) (x qual : Str) (st : Stmt) (dV : Addr) (its : Array Value) (f : Addr) (fd : FuncData) : Prop where
  ex : ∃ (oc : Value) (od : Option Addr) (kV doc pm : Value) (an : Option Addr) (cdv ct : Value) (osl : Array (Option Value)),
    fd = PySem.W.fnOf x qual (defArgs st) (defBody st) (defScope st) (.ref dV) kV doc pm an cdv ct ∧ K.lookup f = some ⟨oc, od, .func fd, osl⟩ ∧ PySem.W.codeIn K cdv qual = true
  kp : PySem.W.keepIn K (.ref f) = true
  dt : ∃ (o : Obj) (n : Nat), K.lookup dV = some o ∧ o.data = .seq its n
section
variable {P : Program} {w : World} {K : PySem.W.Frag} {mg : Str → Option Value} {base : Heap}
theorem FunD.ok {x qual : Str} {st : Stmt} {dV : Addr} {its : Array Value} {f : Addr} {fd : FuncData} {N ps : List Str} {k : Nat} {sp : Sp} (F : FunD K x qual st dV its f fd) (S : FnScope N ps (defScope st)) (len : ∀ vs H Q E, sp vs H Q E → vs.length = ps.length)
    (hbody : ∀ (cdv : Value) (A : Around) (outer : List Env) (s : Shared) (H : Hp) (vs : List V) (Q : VK) (E : XK), Room k (A.deeper (envOfC qual (defScope st) s.heap.objs.size f cdv)) → sp vs H Q E →
      ∃ t, PSs (cxOf CX0 P w K mg base N qual (defScope st) f cdv A outer s H E).nox (defBody st) t ∧ t { nx := fun _ H' => Q .non H', rt := Q } (start N vs) H) : FnOk P w K mg base CX0 (k + 1) f fd ps sp := by
  obtain ⟨oc, od, kV, doc, pm, an, cdv, ct, osl, rfl, lk, hcd⟩ := F.ex
  refine fn_of lk hcd S len fun A outer s H vs Q E hr hsp => ?_
  obtain ⟨t, h, q⟩ := hbody cdv A outer s H vs Q E hr hsp
  exact ⟨t, h.nox, q⟩
theorem FunD.binds {x qual : Str} {st : Stmt} {dV : Addr} {its : Array Value} {f : Addr} {fd : FuncData} {ps : List Str} {ds : List Value} (F : FunD K x qual st dV its f fd)
    (h : ∀ (kV doc pm : Value) (an : Option Addr) (cdv ct : Value) (us : List Value), (us ++ ds).length = ps.length → ∃ k, bindArgs (PySem.W.fnOf x qual (defArgs st) (defBody st) (defScope st) (.ref dV) kV doc pm an cdv ct) ⟨us, []⟩ = seqItems? (.ref dV) >>= k ∧ k (some its) = pure (ps.zip (us ++ ds))) : Binds K fd ps ds := by
  obtain ⟨oc, od, kV, doc, pm, an, cdv, ct, osl, rfl, lk, hcd⟩ := F.ex
  obtain ⟨o, n, ho, hs⟩ := F.dt
  intro s us KI hl
  obtain ⟨k, h1, h2⟩ := h kV doc pm an cdv ct us hl
  exact .of_defaults (T := dV) rfl (KI dV o ho) hs h1 h2
end
structure CalleeD (P : Program) (w : World) (K : PySem.W.Frag) (mg : Str → Option Value) (base : Heap) (CX : CXT) (k : Nat) (x : Str) (ps : List Str) (dvs : List V) (sp : Sp) : Prop where
  has : ∃ (f : Addr) (fd : FuncData) (ds : List Value), FnOk P w K mg base CX k f fd ps sp ∧ mg x = some (.ref f) ∧ PySem.W.keepIn K (.ref f) = true ∧ Binds K fd ps ds ∧ Vals dvs ds
theorem CalleeD.mono {P : Program} {w : World} {K : PySem.W.Frag} {mg : Str → Option Value} {base : Heap} {CX : CXT} {j k : Nat} {x : Str} {ps : List Str} {dvs : List V} {sp : Sp} (c : CalleeD P w K mg base CX j x ps dvs sp) (h : j ≤ k) : CalleeD P w K mg base CX k x ps dvs sp :=
  let ⟨f, fd, ds, ok, m, kp, b, v⟩ := c.has; ⟨⟨f, fd, ds, ok.mono h, m, kp, b, v⟩⟩
section
variable {X : Cx} {CX : CXT} {k : Nat} {ps : List Str} {dvs : List V} {sp : Sp} {E : XK} {x : Str} {p pos : Pos} {e : Expr} {es : List Expr} {t : TA}
end
def totS (z : Str) (ys : List Str) : Nat := ys.foldl (fun (n : Nat) (y : Str) => n + y.length + z.length) 0
section
variable {X : Cx}
def rJoinW (K : PySem.W.Frag) : V → List V → Hp → VK → Prop := fun x xs H Q => ∃ (z : Str) (l : Addr) (ys : List Str), x = .str z ∧ xs = [.ref l] ∧ SqL K H l (ys.map V.str) ∧ totS z ys ≤ 1000000 ∧ Q (.str (Builtin.Str.glued z ys)) H
def rMulS : R2 := fun x y H Q => ∃ a n, x = .str a ∧ y = .int n ∧ 0 ≤ n ∧ n ≤ 100 ∧ a.length ≤ 10 ∧ ∀ z : Str, z.length = a.length * n.toNat → Q (.str z) H
def rIxQ : R2 := fun x y H Q => ∃ p xs i v, x = .ref p ∧ y = .int i ∧ (H p = some (.lst xs) ∨ H p = some (.tup xs)) ∧ atI xs i = some v ∧ Q v H
end
end L2
namespace L2
open PySem PySem.Spec PyProof.Rows
section
open PySem.Builtin PySem.Builtin.Str
def splitL (c : Nat) : List Nat → List (List Nat)
  | [] => [[]]
  | d :: r => if d = c then [] :: splitL c r else match splitL c r with
    | [] => [[d]]
    | p :: ps => (d :: p) :: ps
def strL (L : List Nat) : Str := ⟨L.toArray⟩
section
variable {X : Cx}
def rSplit : V → List V → Hp → VK → Prop := fun x ys H Q => ∃ (t : Str) (c : Nat), x = .str t ∧ ys = [.str ⟨#[c]⟩] ∧ c < 256 ∧ t.length ≤ 1000000 ∧ ∀ l, H l = none → Q (.ref l) (upd H l (.lst ((splitL c t.cps.toList).map fun w => V.str (strL w))))
end
end
section
variable {X : Cx}
def rInN : R2 := fun x y H Q => ∃ p xs, x = .non ∧ y = .ref p ∧ H p = some (.lst xs) ∧ (∀ z ∈ xs, flatV z = true ∨ ∃ a ys, z = .ref a ∧ H a = some (.tup ys)) ∧ Q (.bl (xs.any fun z => eqV z .non)) H
end
section
variable {pg : Program} {wd : World} {B : Around} {X0 : Value → Shared → Prop} {s0 : Shared} {J d : Addr} {m : Nat} {Pr : Nat → Value → Prop} {OK : Heap → Prop}
end
section
variable {X : Cx}
def rMulC : R2 := fun x y H Q => ∃ a n, x = .str (strL a) ∧ y = .int n ∧ 0 ≤ n ∧ n ≤ 100 ∧ a.length ≤ 10 ∧ Q (.str (strL (List.replicate n.toNat a).flatten)) H
end
end L2
namespace L2
open PySem PySem.Spec PyProof.Rows
section
variable {pg : Program} {wd : World} {B : Around} {X0 : Value → Shared → Prop} {z0 : Shared}
end
section
variable {X : Cx}
def rExtendT : V → List V → Hp → VK → Prop := fun x vs H Q => ∃ l b xs zs, x = .ref l ∧ vs = [.ref b] ∧ H l = some (.lst xs) ∧ H b = some (.tup zs) ∧ xs.length + zs.length ≤ sizeLine ∧ Q .non (upd H l (.lst (xs ++ zs)))
def rUpdate : V → List V → Hp → VK → Prop := fun x ys H Q => ∃ a b kvs more, x = .ref a ∧ ys = [.ref b] ∧ a ≠ b ∧ H a = some (.dK kvs) ∧ H b = some (.dK more) ∧ kvs.length + more.length ≤ sizeLine ∧ Q .non (upd H a (.dK (mergeK kvs more)))
end
end L2
namespace L2
open PySem PySem.Spec PyProof.Rows
def AlkV (H : Hp) : Nat → V → V → Prop
  | 0, x, y => flatV x = true ∧ x = y
  | d + 1, x, y => (flatV x = true ∧ x = y) ∨ ∃ (a b : Addr) (xs ys : List V), x = .ref a ∧ y = .ref b ∧ ((H a = some (.lst xs) ∧ H b = some (.lst ys)) ∨ (H a = some (.tup xs) ∧ H b = some (.tup ys))) ∧ xs.length = ys.length ∧ ∀ (i : Nat) z w, xs[i]? = some z → ys[i]? = some w → AlkV H d z w
theorem AlkV.same {H H' : Hp} (s : Same H H') : ∀ {d : Nat} {x y : V}, AlkV H d x y → AlkV H' d x y
  | 0, _, _, h => h
  | d + 1, _, _, .inl h => .inl h
  | d + 1, _, _, .inr ⟨a, b, xs, ys, e1, e2, h, hl, q⟩ => .inr ⟨a, b, xs, ys, e1, e2, h.imp (fun z => ⟨s _ _ z.1, s _ _ z.2⟩) (fun z => ⟨s _ _ z.1, s _ _ z.2⟩), hl, fun i z w e1 e2 => (q i z w e1 e2).same s⟩
theorem AlkV.flat {H : Hp} {d : Nat} {x : V} (h : flatV x = true) : AlkV H d x x := by
  cases d with
  | zero => exact ⟨h, rfl⟩
  | succ d => exact .inl ⟨h, rfl⟩
theorem AlkV.lst {H : Hp} {d : Nat} {a b : Addr} {xs : List V} (h1 : H a = some (.lst xs)) (h2 : H b = some (.lst xs)) (f : xs.all flatV = true) : AlkV H (d + 1) (.ref a) (.ref b) :=
  .inr ⟨a, b, xs, xs, rfl, rfl, .inl ⟨h1, h2⟩, rfl, fun i z w e1 e2 => by
    rw [e1] at e2; cases e2
    exact .flat (List.all_eq_true.mp f _ (List.mem_of_getElem? e1))⟩
theorem AlkV.tup {H : Hp} {d : Nat} {a b : Addr} {xs : List V} (h1 : H a = some (.tup xs)) (h2 : H b = some (.tup xs)) (f : xs.all flatV = true) : AlkV H (d + 1) (.ref a) (.ref b) :=
  .inr ⟨a, b, xs, xs, rfl, rfl, .inr ⟨h1, h2⟩, rfl, fun i z w e1 e2 => by
    rw [e1] at e2; cases e2
    exact .flat (List.all_eq_true.mp f _ (List.mem_of_getElem? e1))⟩
section
variable {X : Cx} {pins : List (Addr × Obj)} {σ : St} {H : Hp} {s : Shared}
def rEqD : R2 := fun x y H Q => (∃ a, x = .ref a) ∧ AlkV H 9 x y ∧ Q (.bl true) H
def rNeD : R2 := fun x y H Q => (∃ a, x = .ref a) ∧ AlkV H 9 x y ∧ Q (.bl false) H
end
section
variable {X : Cx}
def iSeq (K : PySem.W.Frag) (tl : TE) : TI := fun σ H R => tl σ H fun x H1 => (∃ a, x = .ref a ∧ (∃ xs, SqL K H1 a xs) ∧ R (Itl K a) H1) ∨ (∃ a, x = .ref a ∧ (∃ xs, SqT K H1 a xs) ∧ R (Itt K a) H1)
theorem for_eqQ {K : PySem.W.Frag} {te : TE} {g : TG} {tb : TS} {D : Ends} {σ : St} {H : Hp} : tFor (iSeq K te) g tb D σ H = te σ H fun x H1 => LoopL K g tb D σ x H1 ∨ LoopT K g tb D σ x H1 := rfl
theorem comp_eqQ {K : PySem.W.Frag} {k : Nat} {js : List Nat} {ti : TE} {g : TG} {te : TE} {σ : St} {H : Hp} {Q : VK} : tComp (iSeq K ti) k js g te σ H Q = ti σ H fun x H1 => CompL K k js g te σ x H1 Q ∨ CompT K k js g te σ x H1 Q := rfl
end
end L2
namespace L2
open PySem PySem.Spec PyProof.Rows
def Itrl (K : PySem.W.Frag) (a : Addr) (n : Nat) : It := ⟨fun i H => ∃ xs, SqL K H a xs ∧ xs.length = n ∧ i < n, fun i H x H' => H' = H ∧ ∀ xs, SqL K H a xs → xs[n - 1 - i]? = some x, fun i H => ∃ xs, SqL K H a xs ∧ xs.length = n ∧ i = n⟩
theorem turn_rl {P : Program} {w : World} {K : PySem.W.Frag} {tg : Expr} (a it : Addr) (n : Nat) : Turn P w K tg (Itrl K a n) [it] it (fun i h => h.IsRevIter it a ((n : Int) - 1 - (i : Int))) where
  mem := by simp
  obj := fun i h x b hb => by
    have e : b = it := by simpa using hb
    subst e
    obtain ⟨o, ho, _, hd⟩ := x
    exact ⟨o, ho, fun v q => by rw [hd] at q; cases q⟩
  keep := fun i h h' x k => x.at fun o ho => k it (by simp) o ho
  item := by
    intro X hP hw hK hc i pins s σ H E I hf st hg
    subst hP hw hK
    obtain ⟨xs, hq, hn, hi⟩ := hg
    obtain ⟨its, rv, p, hz⟩ := I.list hq
    have hx : xs[n - 1 - i]? = some (xs[n - 1 - i]'(by omega)) := List.getElem?_eq_getElem (by omega)
    obtain ⟨u, hu, ru⟩ := rv.get hx
    obtain ⟨f0, f1, f2, f3, f4, f5⟩ := hf it (by simp)
    have e : (n : Int) - 1 - (i : Int) = ((n - 1 - i : Nat) : Int) := by omega
    rw [e] at st
    refine wpAny_pyNext_rev_item st p.isList (x := u) (by simpa using hu) fun h' st' sb => ?_
    have I1 : Inv X pins σ H { s with heap := h', toks := s.toks } := I.turned (t' := s.toks) (fun b o hb e => (sb.2 b hb).trans e) f0 f1 f3 f4 f5
    obtain ⟨o, e, c, d⟩ := id st'
    have e2 : ((n - 1 - i : Nat) : Int) - 1 = (n : Int) - 1 - ((i + 1 : Nat) : Int) := by omega
    rw [e2] at st'
    exact ⟨u, rfl, go_of (s := { s with heap := h' }) e c d (by decide) ⟨_, H, I1, ru, ⟨rfl, fun ys hy => by rw [I.list_inj hy hq]; exact hx⟩, st', fun b hb => (hf b hb).1⟩⟩
  done := by
    intro X hP hw hK hc i pins s σ H E I hf st hg
    subst hP hw hK
    obtain ⟨xs, hq, hn, hi⟩ := hg
    obtain ⟨f0, f1, f2, f3, f4, f5⟩ := hf it (by simp)
    have e : (n : Int) - 1 - (i : Int) = -1 := by omega
    rw [e] at st
    exact wpAny_pyNext_rev_end (I.ok.hd hc) st fun h' eb => ⟨rfl, I.turned (t' := s.toks) (fun b o hb e => eb b o hb e) f0 f1 f3 f4 f5⟩
  self := fun _ _ _ _ _ st h => wpAny_pyIter_revIter st h
section
variable {X : Cx} {tg : Expr}
def iRevL (K : PySem.W.Frag) (te : TE) : TI := fun σ H R => te σ H fun x H1 => ∃ a xs, x = .ref a ∧ SqL K H1 a xs ∧ R (Itrl K a xs.length) H1
theorem pi_revL {e : Expr} {te : TE} {p pos : Pos} (hg : Gl X "reversed") (hm : X.mg "reversed" = none) (he : PE X e te) (hs : starEach [e] X.env = [(false, eval e X.env)] := by rfl) :
    PI X tg (.Call (.Name "reversed" p) [e] [] pos) (iRevL X.K te) := by
  intro pins s σ H R I h
  have hA := (pa_cons he (pa_nil (X := X)) hs) pos pins s σ H (fun vs H1 => match vs with | [x] => ∃ a xs, x = .ref a ∧ SqL X.K H1 a xs ∧ R (Itrl X.K a xs.length) H1 | _ => False) I h
  refine Call_ (ld_blt I hg hm boot_reversed (PyProof.Rows.callWith_type1 (thn hA fun us s1 ⟨vs, H1, I1, r1, q1⟩ => ?_) hs rfl))
  match vs, q1 with
  | [x], ⟨a, xs, e, hq, q⟩ =>
    subst e
    obtain ⟨u, rfl, ru⟩ := vals1 r1
    cases (show u = Value.ref a from ru)
    obtain ⟨its, rv, pl, hz⟩ := I1.list hq
    have hl := rv.length
    refine call_reversed_list pl.isList ?_
    have I2 : Inv X pins σ H1 { s1 with heap := s1.heap.push (revObj a ((its.toArray.size : Int) - 1)) } := I1.kept (t' := s1.toks) fun b o e => Heap.get?_push_of_some _ e
    have ir : (s1.heap.push (revObj a ((its.toArray.size : Int) - 1))).IsRevIter s1.heap.objs.size a ((xs.length : Int) - 1 - ((0 : Nat) : Int)) := by
      refine ⟨_, Heap.get?_push_size _ rfl, rfl, ?_⟩
      show Data.fields #[.ref a, rawInt ((its.toArray.size : Int) - 1)] = _
      have e : ((its.toArray.size : Nat) : Int) - 1 = (xs.length : Int) - 1 - ((0 : Nat) : Int) := by simp; omega
      rw [e]
    refine wpAny_pyIter_revIter ir ⟨s1.heap.objs.size, [s1.heap.objs.size], _, _, H1, rfl, I2, turn_rl a _ xs.length, ir, fun b hb => ?_, q⟩
    have e : b = s1.heap.objs.size := by simpa using hb
    subst e
    exact I1.fpOk (Nat.le_refl _) (I1.hok.fresh (Nat.le_refl _))
end
def LoopVL (K : PySem.W.Frag) (g : TG) (tb : TS) (D : Ends) (σ : St) (x : V) (H1 : Hp) : Prop := ∃ a xs, x = .ref a ∧ SqL K H1 a xs ∧ ∃ W : Nat → Nat → St → Hp → Prop, (∃ m, W 0 m σ H1) ∧ ∀ i m σ H, W i m σ H →
  ((Itrl K a xs.length).stop i H ∧ D.nx σ H) ∨ ((Itrl K a xs.length).go i H ∧ ∃ N : St → Hp → Prop, (∀ σ' H', N σ' H' → ∃ m', m' < m ∧ W (i + 1) m' σ' H') ∧ ∀ x H', (Itrl K a xs.length).yld i H x H' → g x σ H' fun σ2 H2 => tb { D with nx := N, ct := N, bk := D.nx } σ2 H2)
theorem for_eqVL {K : PySem.W.Frag} {te : TE} {g : TG} {tb : TS} {D : Ends} {σ : St} {H : Hp} : tFor (iRevL K te) g tb D σ H = te σ H fun x H1 => LoopVL K g tb D σ x H1 := rfl
theorem LoopVL.mk {K : PySem.W.Frag} {a : Addr} {xs : List V} {g : TG} {tb : TS} {D : Ends} {σ : St} {H : Hp} (hS : SqL K H a xs) (Pv : Nat → St → Hp → Prop) (h0 : Pv 0 σ H) (hl : ∀ i σ H, i ≤ xs.length → Pv i σ H → SqL K H a xs)
    (hs : ∀ i x σ H, i < xs.length → xs[xs.length - 1 - i]? = some x → Pv i σ H → g x σ H fun σ2 H2 => tb { D with nx := Pv (i + 1), ct := Pv (i + 1), bk := D.nx } σ2 H2) (hd : ∀ σ H, Pv xs.length σ H → D.nx σ H) : LoopVL K g tb D σ (.ref a) H := by
  refine ⟨a, xs, rfl, hS, fun i m σ H => m = xs.length - i ∧ i ≤ xs.length ∧ Pv i σ H, ⟨xs.length, by simp, Nat.zero_le _, h0⟩, ?_⟩
  rintro i m σ H ⟨rfl, hi, p⟩
  have q := hl i σ H hi p
  by_cases hlt : i < xs.length
  · refine .inr ⟨⟨xs, q, rfl, hlt⟩, Pv (i + 1), fun σ' H' p' => ⟨xs.length - (i + 1), by omega, rfl, hlt, p'⟩, fun x H' y => ?_⟩
    obtain ⟨e, y⟩ := y
    subst e
    exact hs i x σ _ hlt (y xs q) p
  · have e : i = xs.length := by omega
    subst e
    exact .inl ⟨⟨xs, q, rfl, rfl⟩, hd σ H p⟩
end L2
namespace L2
open PySem PySem.Spec PyProof.Rows PySem.W PySem.Calls
def catchA (K : PySem.W.Frag) : List (Addr × Nat × TS) → Value → (Nat → TS → Prop) → Prop
  | [], _, _ => False
  | (C, i, ts) :: r, c, k => (PySem.W.exmOne K c (.ref C) = some true ∧ k i ts) ∨ (PySem.W.exmOne K c (.ref C) = some false ∧ catchA K r c k)
def caughtA (K : PySem.W.Frag) (cs : List (Addr × Nat × TS)) (D : Ends) : St → XK := fun σ1 c _ H1 => ∃ C', c = .ref C' ∧ catchA K cs c fun i ts => ∀ a, H1 a = none → ts (goneEnds D i) (σ1.set i (some (.ref a))) (upd H1 a (ExcO a C'))
def tTryA (K : PySem.W.Frag) (cs : List (Addr × Nat × TS)) (tb : (St → XK) → TS) : TS := fun D σ H => tb (caughtA K cs D) D σ H
inductive ClausesA (X : Cx) : List ExceptHandler → List (Addr × Nat × TS) → Prop
  | nil : ClausesA X [] []
  | cons {x n : Str} {C : Addr} {i : Nat} {b₀ : Stmt} {suite : List Stmt} {np hpos : Pos} {ts : TS} {r : List ExceptHandler} {tr : List (Addr × Nat × TS)} (hi : X.N[i]? = some n) (hk : X.env.scope.names.lookup n = some .local) (hg : Gl X x) (hn : PySem.W.nsIn X.K mainGlobals x = some (some (.ref C)))
      (hs : ∀ (a : Addr) (pn : List (Addr × Obj)), PSs (X.suite a pn) (b₀ :: suite) ts) (hr : ClausesA X r tr) (hd : (x == ("__debug__" : Str)) = false) : ClausesA X (.ExceptHandler (some (.Name x np)) (some n) (b₀ :: suite) hpos :: r) ((C, i, ts) :: tr)
theorem ps_tryA {X : Cx} {body : List Stmt} {h₀ : ExceptHandler} {hl : List ExceptHandler} {cs : List (Addr × Nat × TS)} {pos : Pos} {tb : (St → XK) → TS} (hstk : X.stack = X.env :: X.outer ∧ X.env.frame = some X.env.locals) (hex : X.ex = []) (hN : X.N.Nodup)
    (hb : ∀ (xe : Value → Shared → Prop) (pn : List (Addr × Obj)) (EE : St → XK), (∀ σ, PassesAt (CX1 X.prog X.w) (X.more xe pn) (EE σ) σ) → PSs (X.more xe pn) body (tb EE)) (hc : ClausesA X (h₀ :: hl) cs) :
    PS X (.Try body (h₀ :: hl) [] [] pos) (tTryA X.K cs tb) := by
  intro pins s σ H D I h
  refine wpAny_Try_except ?_
  generalize hXE : (fun e s₁ => wpAny (model X.prog X.w) X.A (noteFrame e X.env) (fun _ s₂ => wpAny (model X.prog X.w) X.A (setFlight e none) (fun _ s₃ => wpAny (model X.prog X.w) X.A (handleBy e X.env (h₀ :: hl)) (SP X pins D) X.xe s₃) X.xe s₂) X.xe s₁ : Value → Shared → Prop) = XE
  have toY : ∀ {σ' : St} {H' : Hp} {s' : Shared}, Inv X pins σ' H' s' → Inv (X.more XE (X.pn ++ pins)) [] σ' H' s' := fun J => ⟨J.ok.more _ _, J.os, J.bare, J.base, J.loc, J.cell, J.free, J.freeC, fun p hp => J.pin p (by simpa using hp), J.hok, J.len⟩
  have ofY : ∀ {σ' : St} {H' : Hp} {s' : Shared} {pp : List (Addr × Obj)}, Inv (X.more XE (X.pn ++ pins)) pp σ' H' s' → Inv X pins σ' H' s' := fun J => ⟨I.ok, J.os, J.bare, J.base, J.loc, J.cell, J.free, J.freeC, fun p hp => J.pin p (List.mem_append_left _ hp), J.hok, J.len⟩
  have body_ok := hb XE (X.pn ++ pins) (caughtA X.K cs D) ?_ [] s σ H D (toY I) h
  · refine thn body_ok fun fl s' q => ?_
    cases fl with
    | next => obtain ⟨σ', H', J, z⟩ := q; exact wpAny_execs_nil ⟨σ', H', ofY J, z⟩
    | brk => obtain ⟨σ', H', J, z⟩ := q; exact ⟨σ', H', ofY J, z⟩
    | cont => obtain ⟨σ', H', J, z⟩ := q; exact ⟨σ', H', ofY J, z⟩
    | ret u => obtain ⟨v, σ', H', J, r, z⟩ := q; exact ⟨v, σ', H', ofY J, r, z⟩
  intro σ1 pins1 H1 s1 e s' I1 hx
  obtain ⟨a, C', a0, H', B, rfl, os, bare, fl, inB, thB, un, okB, C2, hC2, hcatch⟩ := hx
  obtain rfl : C' = C2 := Value.ref.inj hC2
  have hcatch : catchA X.K cs (.ref C') fun i ts => ∀ a, H' a = none → ts (goneEnds D i) (σ1.set i (some (.ref a))) (upd H' a (ExcO a C')) := hcatch
  subst hXE
  have fl : Heap.FlyingW B (X.env :: X.outer) a (.ref C') a0 s'.heap := by
    have z : Heap.FlyingW B X.stack a (.ref C') a0 s'.heap := fl
    rw [hstk.1] at z; exact z
  have hfr : X.A.frames = some (X.env :: X.outer) := by rw [I.ok.frames, hstk.1]
  have at_ : ∀ h2 : Heap, Heap.FlyingW B (X.env :: X.outer) a (.ref C') a0 h2 → s'.heap.UpToSlots h2 → ∀ t2 : Nat, Inv X pins σ1 H' { s' with heap := h2, toks := t2 } := fun h2 f2 u2 t2 => by
    have J1 : Inv X pins σ1 H1 s1 := ofY I1
    have slot : ∀ b o, s1.heap.get? b = some o → H1 b = none → b ∈ frs X.stack → ∃ sl, h2.get? b = some { o with slots := sl } := fun b o e nn hb => by
      obtain ⟨sl2, e2⟩ := un.slot b o e nn hb (by simp)
      obtain ⟨_, o3, e3, nf⟩ := J1.stack.mem hb
      rw [e] at e3; cases e3
      obtain ⟨sl3, e4⟩ := u2 b _ e2 nf
      exact ⟨sl3, e4⟩
    refine J1.call' (s' := { s' with heap := h2, toks := t2 }) (ch := []) os ⟨fun b o e nn hb _ => f2.1 _ _ (inB b o e nn hb), fun b o e nn hb _ => slot b o e nn hb, un.free, fun b o e _ => ?_, un.tups, un.frzs, un.tbls⟩ (okB.kept f2.1) bare (fun b z => nomatch z)
    by_cases hb : b ∈ frs X.stack
    · obtain ⟨sl, q⟩ := slot b o e (J1.stkFree b hb) hb
      exact ⟨_, q⟩
    · obtain ⟨o', q⟩ := thB b o e hb
      exact ⟨o', f2.1 _ _ q⟩
  refine wpAny_looks_onW hfr hstk.2 fl fun h4 held4 up4 => ?_
  refine wpAny_landsW held4 fun h5 fl5 up5 => ?_
  have J5 := at_ h5 fl5 (up4.trans up5) s'.toks
  obtain ⟨oe5, ve5, he5, hc5, hd5, _⟩ := fl5.first
  have toZ : ∀ {σ' : St} {H' : Hp} {s' : Shared}, Inv X pins σ' H' s' → Inv (X.suite a (X.pn ++ pins)) [] σ' H' s' := fun J => ⟨J.ok.suite _ _, J.os, J.bare, J.base, J.loc, J.cell, J.free, J.freeC, fun p hp => J.pin p (by simpa using hp), J.hok, J.len⟩
  have ofZ : ∀ {σ' : St} {H' : Hp} {s' : Shared}, Inv (X.suite a (X.pn ++ pins)) [] σ' H' s' → Inv X pins σ' H' s' := fun J => ⟨I.ok, J.os, J.bare, J.base, J.loc, J.cell, J.free, J.freeC, fun p hp => J.pin p (List.mem_append_left _ hp), J.hok, J.len⟩
  have LT : Looks (model X.prog X.w) h5 (typeOf (.ref a)) (.ref C') := hc5 ▸ (Looks.ld he5).andThen .now
  have all : ∀ (hs' : List ExceptHandler) (cs' : List (Addr × Nat × TS)), ClausesA X hs' cs' → (catchA X.K cs' (.ref C') fun i ts => ∀ a, H' a = none → ts (goneEnds D i) (σ1.set i (some (.ref a))) (upd H' a (ExcO a C'))) → wpAny (model X.prog X.w) X.A (handleBy (.ref a) X.env hs') (SP X pins D) X.xe { s' with heap := h5 } := by
    intro hs' cs' hcl
    induction hcl with
    | nil => intro z; exact z.elim
    | @cons x n C i b₀ suite np hpos ts r tr hi hk hg hn hs hr hd ih =>
      intro z
      have bnd := PySem.W.mg_of J5.ok.mod.kin J5.ok.mod.glob hn
      refine wpAny_handleBy_cons (codeAny_handlers_test ?_) (by intro q; cases q)
      refine ld_glob (X := X.suite a (X.pn ++ pins)) (toZ J5) hg bnd ?_ hd
      rcases z with ⟨z1, z2⟩ | ⟨z1, z2⟩
      · refine (PySem.W.exm_one (M := model X.prog X.w) J5.kIn LT z1).here ?_
        refine codeAny_handlers_suite_as ?_
        refine lands_againW fl5 fun h6 fl6 up6 => ?_
        have J6 := at_ h6 fl6 ((up4.trans up5).trans up6) s'.toks
        obtain ⟨oe, ve, hoe, hoc, hod, _⟩ := fl6.first
        have Ba : B.get? a = none := fl6.2.1
        have Ha : H' a = none := by
          cases q : H' a with
          | none => rfl
          | some u =>
            have z : a < B.objs.size := okB.lt q
            have y := okB a u q
            obtain ⟨o9, e9⟩ : ∃ o9, B.get? a = some o9 := by
              cases u with
              | lst xs => obtain ⟨_, _, _, _, e⟩ := y; exact ⟨_, e⟩
              | tup xs => obtain ⟨_, _, _, o, e, _⟩ := y; exact ⟨_, e⟩
              | dK kvs => obtain ⟨_, _, _, _, o, _, _, e, _⟩ := y; exact ⟨_, e⟩
              | dT kvs => obtain ⟨_, _, _, _, o, _, _, e, _⟩ := y; exact ⟨_, e⟩
              | set S n => obtain ⟨o, _, _, _, e, _⟩ := y; exact ⟨_, e⟩
              | ins C dx fs => obtain ⟨_, _, _, e, _⟩ := y; exact ⟨_, e⟩
              | own y' => obtain ⟨_, e⟩ := y; exact ⟨_, e⟩
              | xd fs => obtain ⟨_, ⟨_, _, _, e, _⟩, _⟩ := y; exact ⟨_, e⟩
              | rng lo hi => obtain ⟨_, _, _, e⟩ := y; exact ⟨_, e⟩
              | frz ob u => obtain ⟨e, _⟩ := y; exact ⟨_, e⟩
              | tbl ps => exact ⟨_, (show B.get? a = some _ from y)⟩
              | met f y' => exact ⟨_, (show B.get? a = some _ from y)⟩
              | ext φ => obtain ⟨_, ⟨_, e⟩, _⟩ := y; exact ⟨_, e⟩
            rw [Ba] at e9; cases e9
        have J1 : Inv X pins σ1 H1 s1 := ofY I1
        have notfields : ∀ b o, h6.get? b = some o → (∀ vs, o.data ≠ .fields vs) → b ≠ a := fun b o e nf z => by
          rw [z, hoe] at e; cases e; exact nf _ hod
        obtain ⟨mL, ⟨oL, esL, epL, hoL, hdL, _⟩, _⟩ := id J6.loc
        have aL : a ≠ X.env.locals := fun z => (notfields X.env.locals oL hoL fun vs q => by rw [hdL] at q; cases q) z.symm
        have ac : ∀ y c, X.env.cells.lookup y = some c → c ≠ a := fun y c e => by
          obtain ⟨v, o, ho, hdc⟩ := J6.cell y c e
          exact notfields c o ho fun vs q => by rw [hdc] at q; cases q
        have inB2 : ∀ b o, s1.heap.get? b = some o → H1 b = none → b ∉ frs X.stack → b ≠ a := fun b o e nn hb z => by
          have q := inB b o e nn hb
          rw [z, Ba] at q; cases q
        have nstk : ∀ b, b ≠ X.env.locals → b ∉ X.fs → b ∉ frs X.stack := fun b h1 h2 z => by
          rcases List.mem_cons.mp (J1.stkSub b z) with q | q
          · exact h1 q
          · exact h2 q
        have ap : ∀ p ∈ X.pn ++ pins, p.1 ≠ a := fun p hp => by
          obtain ⟨e, nn, ne, nf, _⟩ := J1.pin p hp
          exact inB2 p.1 p.2 e nn (nstk p.1 ne nf)
        have a0n : X.s₀.heap.get? a = none := by
          cases q : X.s₀.heap.get? a with
          | none => rfl
          | some o =>
            by_cases hx : a ∈ X.ex
            · rw [hex] at hx; cases hx
            · obtain ⟨o1, e1⟩ := J1.base.there a o q hx
              by_cases hf : a ∈ frs X.stack
              · obtain ⟨_, o3, e3, nf⟩ := J6.stack.mem hf
                exact absurd rfl (notfields a o3 e3 nf)
              · obtain ⟨o', q'⟩ := thB a o1 e1 hf
                rw [Ba] at q'; cases q'
        have J7 : Inv X pins σ1 (upd H' a (ExcO a C')) { s' with heap := h6 } := J6.track Ha ⟨⟨oe, ve, hoe, hoc, hod⟩, ⟨oe, hoe⟩, fun k1 k2 ⟨o, vs, e, c, d⟩ kk => ⟨o, vs, kk o e, c, d⟩⟩ aL ac ap a0n
        refine store_ok (X := X.suite a (X.pn ++ pins)) (v := .ref a) (toZ J7) hN hi (.inl hk) rfl (fun s8 J8 => ?_) (.inr hk)
        refine wpAny_mono (hs a (X.pn ++ pins) [] s8 _ _ _ J8 (z2 a Ha)) (fun fl s9 q => ?_) fun _ _ z => z.elim
        have hcls : (X.env.scope.kind == .class || (X.env.scope.kind == .module && X.env.locals != X.env.globals)) = false := by rw [I.ok.kind]; rfl
        have gone : ∀ {σ9 : St} {H9 : Hp} {QQ : Unit → Shared → Prop}, Inv (X.suite a (X.pn ++ pins)) [] σ9 H9 s9 → (∀ s10, Inv X pins (σ9.set i none) H9 s10 → QQ () s10) → wpAny (model X.prog X.w) X.A (do bindName X.env n .none; unbindBehindTheSuite X.env n hpos) QQ X.xe s9 := fun {σ9 H9 QQ} J9 k => by
          have J9' := ofZ J9
          obtain ⟨m, hm, hl⟩ := id J9'.loc
          exact wpAny_nameGoes_keeps hk hm hcls fun h' v hn' hs' => k _ (J9'.gone hN hi hk hm hl hn' hs')
        cases fl with
        | next => obtain ⟨σ9, H9, J9, z⟩ := q; exact gone J9 fun s10 J10 => ⟨_, H9, J10, z⟩
        | brk => obtain ⟨σ9, H9, J9, z⟩ := q; exact gone J9 fun s10 J10 => ⟨_, H9, J10, z⟩
        | cont => obtain ⟨σ9, H9, J9, z⟩ := q; exact gone J9 fun s10 J10 => ⟨_, H9, J10, z⟩
        | ret u => obtain ⟨v, σ9, H9, J9, r, z⟩ := q; exact gone J9 fun s10 J10 => ⟨v, _, H9, J10, r, z⟩
      · refine (PySem.W.exm_one (M := model X.prog X.w) J5.kIn LT z1).here ?_
        exact ih z2
  exact all _ _ hc hcatch
end L2
namespace L2
open PySem PySem.Spec PyProof.Rows PySem.W PySem.Calls
section
variable {M : Model} {A : Around} {E : Value → Shared → Prop} {s₀ s : Shared} {m cm : Str → Option Value} {env : Env} {cs : List (Str × Addr)}
end
section
variable {M : Model} {A : Around} {E : Value → Shared → Prop} {s : Shared}
end
def CelO (c : Addr) (v : V) : HO := .ext fun h => ∃ u, RelV v u ∧ h.IsCell c (some u)
def CodO (c : Addr) (qual : Str) : HO := .ext fun h => h.CodeRec (.ref c) qual
def LamO (fa c' : Addr) (qual : Str) (params : Arguments) (body : Expr) (scope : Scope) (cl : List (Str × Addr)) : HO := .ext fun h => ∃ pm ctv, h.get? fa = some (kla_obj "<lambda>" qual params body scope cl pm c' ctv)
structure CelAt (H : Hp) (cl : List (Str × Addr)) (vcs : List V) : Prop where
  len : cl.length = vcs.length
  at_ : ∀ (i : Nat) q, cl[i]? = some q → ∃ v o, vcs[i]? = some v ∧ H q.2 = some (.frz o (CelO q.2 v))
  apart : cl.Pairwise fun x y => x.2 ≠ y.2
theorem CelAt.mem {H : Hp} {cl : List (Str × Addr)} {vcs : List V} (h : CelAt H cl vcs) {q : Str × Addr} (hq : q ∈ cl) : ∃ o v, H q.2 = some (.frz o (CelO q.2 v)) := by
  obtain ⟨i, e⟩ := List.mem_iff_getElem?.mp hq
  obtain ⟨v, o, _, e2⟩ := h.at_ i q e
  exact ⟨o, v, e2⟩
theorem CelAt.same {H H' : Hp} {cl : List (Str × Addr)} {vcs : List V} (h : CelAt H cl vcs) (s : ∀ a o, H a = some o → H' a = some o) : CelAt H' cl vcs :=
  ⟨h.len, fun i q e => let ⟨v, o, e1, e2⟩ := h.at_ i q e; ⟨v, o, e1, s _ _ e2⟩, h.apart⟩
structure LmScope (N ps fv : List Str) (sc : Scope) : Prop where
  kind : sc.kind = .function
  co : sc.isCoroutine = false
  gen : sc.isGenerator = false
  nd : N.Nodup
  pre : N.take (ps ++ fv).length = ps ++ fv
  par : ∀ x ∈ ps, sc.names.lookup x = some .local ∨ sc.names.lookup x = some .cell
  fre : ∀ x ∈ fv, sc.names.lookup x = some .free
  has : ∀ y ∈ sc.names, y.2 = .free → y.1 ∈ fv
  own : ∀ x ∈ fv, ∀ y ∈ sc.names, y.2 = .cell → y.1 ≠ x
def CallV (P : Program) (w : World) (K : PySem.W.Frag) (mg : Str → Option Value) (base : Heap) (k : Nat) (fa : Addr) (vs : List V) (H : Hp) (Q : VK) : Prop :=
  ∀ (A : Around) (outer : List Env) (s : Shared) (us : List Value), Room k A → Env0 P w K mg base A outer s H → Vals vs us → codeAny (model P w) A (.call (.ref fa) ⟨us, []⟩) (CR CX0 outer P w H s Q fun _ _ _ => False) s
end L2
namespace L2
open PySem PySem.Spec PyProof.Rows PySem.W PySem.Calls
def FnV (H : Hp) (fa : Addr) : Prop := ∃ φ, H fa = some (.ext φ) ∧ ∀ h, φ h → FnAt fa h
theorem FnV.same {H H' : Hp} {fa : Addr} (h : FnV H fa) (s : ∀ o, H fa = some o → H' fa = some o) : FnV H' fa := let ⟨φ, e, k⟩ := h; ⟨φ, s _ e, k⟩
def tCalV (P : Program) (w : World) (K : PySem.W.Frag) (mg : Str → Option Value) (base : Heap) (k i : Nat) (t : TA) : TE := fun σ H Q => ∃ fa, σ[i]? = some (some (.ref fa)) ∧ FnV H fa ∧ t σ H fun vs H1 => FnV H1 fa ∧ CallV P w K mg base k fa vs H1 Q
section
variable {X : Cx} {k : Nat} {x : Str} {p pos : Pos} {e : Expr} {es : List Expr} {t : TA}
end
def OwnCl (ec : List (Str × Addr)) (fv : List Str) (cl : List (Str × Addr)) : Prop := cl.map (·.1) = fv ∧ ∀ q ∈ cl, ec.lookup q.1 = some q.2
def TabOk (H : Hp) (T : Addr) (pos : Pos) (qual : Str) : Prop := ∃ ps, H T = some (.tbl ps) ∧ TriplesOk ps.toList ∧ (codeAmong pos ps.toList = none ∨ ∃ c', codeAmong pos ps.toList = some (.ref c') ∧ H c' = some (CodO c' qual))
theorem TabOk.same {H H' : Hp} {T : Addr} {pos : Pos} {qual : Str} (h : TabOk H T pos qual) (s : ∀ a o, H a = some o → H' a = some o) : TabOk H' T pos qual := by
  obtain ⟨ps, e, t, z⟩ := h
  exact ⟨ps, s _ _ e, t, z.imp id fun ⟨c', a, b⟩ => ⟨c', a, s _ _ b⟩⟩
structure TabF (base : Heap) (mg : Str → Option Value) (c T : Addr) : Prop where
  hd : CodeHd base c T
  none_ : base.get? T = none
  blt : ∃ bm o, mg "__builtins__" = some (.ref bm) ∧ bm ≠ builtinsNs ∧ bm ≠ mainGlobals ∧ bm ≠ T ∧ base.get? bm = some o ∧ o.cls = .type "module" ∧ o.dict = some builtinsNs ∧ o.data = .plain
  ne : mainGlobals ≠ T
def tLam (ec : List (Str × Addr)) (fv : List Str) (T : Addr) (pos : Pos) (qual : Str) (params : Arguments) (body : Expr) (scope : Scope) : TE := fun _ H Q => TabOk H T pos qual ∧
  ∀ fa c' cl H2, OwnCl ec fv cl → H fa = none → H2 fa = some (LamO fa c' qual params body scope cl) → H2 c' = some (CodO c' qual) → TabOk H2 T pos qual → (∀ b o, b ≠ T → H b = some o → H2 b = some o) → Q (.ref fa) H2
section
variable {X : Cx} {params : Arguments} {body : Expr} {scope : Scope} {pos : Pos} {fv : List Str} {c T : Addr} {cl : List (Str × Addr)}
end
end L2
namespace L2
open PySem PySem.Spec PyProof.Rows PySem.W PySem.Calls
theorem CallV.mono {P : Program} {w : World} {K : PySem.W.Frag} {mg : Str → Option Value} {base : Heap} {j k : Nat} {fa : Addr} {vs : List V} {H : Hp} {Q : VK} (h : CallV P w K mg base j fa vs H Q) (l : j ≤ k) : CallV P w K mg base k fa vs H Q :=
  fun A outer s us hr e0 r => h A outer s us (hr.mono l) e0 r
end L2
namespace L2
open PySem PySem.Spec PyProof.Rows
def LoopE (K : PySem.W.Frag) (g : TG) (tb : TS) (D : Ends) (σ : St) (v : V) (H1 : Hp) : Prop := ∃ a xs, v = .ref a ∧ SqT K H1 a xs ∧ ∃ W : Nat → Nat → St → Hp → Prop, (∃ m, W 0 m σ H1) ∧ ∀ i m σ H, W i m σ H →
  ((Ite K a).stop i H ∧ D.nx σ H) ∨ ((Ite K a).go i H ∧ ∃ N : St → Hp → Prop, (∀ σ' H', N σ' H' → ∃ m', m' < m ∧ W (i + 1) m' σ' H') ∧ ∀ x H', (Ite K a).yld i H x H' → g x σ H' fun σ2 H2 => tb { D with nx := N, ct := N, bk := D.nx } σ2 H2)
theorem for_eqE {K : PySem.W.Frag} {te : TE} {g : TG} {tb : TS} {D : Ends} {σ : St} {H : Hp} : tFor (iEnum K te) g tb D σ H = te σ H fun v H1 => LoopE K g tb D σ v H1 := rfl
theorem LoopE.mk {K : PySem.W.Frag} {a : Addr} {xs : List V} {g : TG} {tb : TS} {D : Ends} {σ : St} {H : Hp} (h1 : SqT K H a xs) (Pv : Nat → St → Hp → Prop) (h0 : Pv 0 σ H) (hl : ∀ i σ H, i ≤ xs.length → Pv i σ H → SqT K H a xs)
    (hs : ∀ i x σ H T, xs[i]? = some x → Pv i σ H → H T = none → g (.ref T) σ (upd H T (.tup [.int i, x])) fun σ2 H2 => tb { D with nx := Pv (i + 1), ct := Pv (i + 1), bk := D.nx } σ2 H2) (hd : ∀ σ H, Pv xs.length σ H → D.nx σ H) :
    LoopE K g tb D σ (.ref a) H := by
  refine ⟨a, xs, rfl, h1, fun i m σ H => m = xs.length - i ∧ i ≤ xs.length ∧ Pv i σ H, ⟨_, rfl, Nat.zero_le _, h0⟩, ?_⟩
  rintro i m σ H ⟨rfl, hi, p⟩
  have k1 := hl i σ H hi p
  by_cases hlt : i < xs.length
  · refine .inr ⟨⟨xs, _, k1, List.getElem?_eq_getElem hlt⟩, Pv (i + 1), fun σ' H' p' => ⟨xs.length - (i + 1), by omega, rfl, hlt, p'⟩, fun v H' yy => ?_⟩
    obtain ⟨T, x, rfl, hT, rfl, ex⟩ := yy
    exact hs i x σ H T (ex xs k1) p hT
  · have e : i = xs.length := by omega
    exact .inl ⟨⟨xs, k1, by omega⟩, hd σ H (e ▸ p)⟩
section
variable {X : Cx}
def rIndex (K : PySem.W.Frag) : V → List V → Hp → VK → Prop := fun x ys H Q => ∃ a xs y j, x = .ref a ∧ ys = [y] ∧ SqL K H a xs ∧ xs.all flatV = true ∧ flatV y = true ∧ (∃ z, xs[j]? = some z ∧ eqV z y = true) ∧ (∀ m z, m < j → xs[m]? = some z → eqV z y = false) ∧ Q (.int (j : Nat)) H
end
end L2
namespace L2
open PySem PySem.Spec PyProof.Rows
section
variable {pg : Program} {wd : World} {B : Around} {X0 : Value → Shared → Prop} {s0 : Shared}
end
def ItzN (K : PySem.W.Frag) (a b : Addr) : It := ⟨fun i H => ∃ xs ys x y, SqT K H a xs ∧ SqL K H b ys ∧ xs[i]? = some x ∧ ys[i]? = some y,
  fun i H v H' => ∃ T x y, v = .ref T ∧ H T = none ∧ H' = upd H T (.tup [x, y]) ∧ ∀ xs ys, SqT K H a xs → SqL K H b ys → xs[i]? = some x ∧ ys[i]? = some y, fun i H => ∃ xs ys, SqT K H a xs ∧ SqL K H b ys ∧ (xs.length ≤ i ∨ ys.length ≤ i)⟩
section
variable {X : Cx} {es : List Expr} {x1 : Nat} {pp : Pos}
def iZipN (K : PySem.W.Frag) (ta : TA) : TI := fun σ H R => ta σ H fun vs H1 => ∃ a b xs ys, vs = [.ref a, .ref b] ∧ SqT K H1 a xs ∧ SqL K H1 b ys ∧ R (ItzN K a b) H1
end
def LoopZN (K : PySem.W.Frag) (g : TG) (tb : TS) (D : Ends) (σ : St) (vs : List V) (H1 : Hp) : Prop := ∃ a b xs ys, vs = [.ref a, .ref b] ∧ SqT K H1 a xs ∧ SqL K H1 b ys ∧ ∃ W : Nat → Nat → St → Hp → Prop, (∃ m, W 0 m σ H1) ∧ ∀ i m σ H, W i m σ H →
  ((ItzN K a b).stop i H ∧ D.nx σ H) ∨ ((ItzN K a b).go i H ∧ ∃ N : St → Hp → Prop, (∀ σ' H', N σ' H' → ∃ m', m' < m ∧ W (i + 1) m' σ' H') ∧ ∀ x H', (ItzN K a b).yld i H x H' → g x σ H' fun σ2 H2 => tb { D with nx := N, ct := N, bk := D.nx } σ2 H2)
theorem for_eqZN {K : PySem.W.Frag} {ta : TA} {g : TG} {tb : TS} {D : Ends} {σ : St} {H : Hp} : tFor (iZipN K ta) g tb D σ H = ta σ H fun vs H1 => LoopZN K g tb D σ vs H1 := rfl
theorem LoopZN.mk {K : PySem.W.Frag} {a b : Addr} {xs ys : List V} {g : TG} {tb : TS} {D : Ends} {σ : St} {H : Hp} (n : Nat) (hn : n = min xs.length ys.length) (h1 : SqT K H a xs) (h2 : SqL K H b ys) (Pv : Nat → St → Hp → Prop) (h0 : Pv 0 σ H) (hl : ∀ i σ H, i ≤ n → Pv i σ H → SqT K H a xs ∧ SqL K H b ys)
    (hs : ∀ i x y σ H T, i < n → xs[i]? = some x → ys[i]? = some y → Pv i σ H → H T = none → g (.ref T) σ (upd H T (.tup [x, y])) fun σ2 H2 => tb { D with nx := Pv (i + 1), ct := Pv (i + 1), bk := D.nx } σ2 H2) (hd : ∀ σ H, Pv n σ H → D.nx σ H) :
    LoopZN K g tb D σ [.ref a, .ref b] H := by
  subst hn
  refine ⟨a, b, xs, ys, rfl, h1, h2, fun i m σ H => m = min xs.length ys.length - i ∧ i ≤ min xs.length ys.length ∧ Pv i σ H, ⟨_, rfl, Nat.zero_le _, h0⟩, ?_⟩
  rintro i m σ H ⟨rfl, hi, p⟩
  obtain ⟨k1, k2⟩ := hl i σ H hi p
  by_cases hlt : i < min xs.length ys.length
  · have l1 : i < xs.length := by omega
    have l2 : i < ys.length := by omega
    refine .inr ⟨⟨xs, ys, _, _, k1, k2, List.getElem?_eq_getElem l1, List.getElem?_eq_getElem l2⟩, Pv (i + 1), fun σ' H' p' => ⟨min xs.length ys.length - (i + 1), by omega, rfl, hlt, p'⟩, fun v H' yy => ?_⟩
    obtain ⟨T, x, y, rfl, hT, rfl, ex⟩ := yy
    obtain ⟨ex1, ex2⟩ := ex xs ys k1 k2
    exact hs i x y σ H T hlt ex1 ex2 p hT
  · have e : i = min xs.length ys.length := by omega
    exact .inl ⟨⟨xs, ys, k1, k2, by omega⟩, hd σ H (e ▸ p)⟩
def CompZN (K : PySem.W.Frag) (k : Nat) (js : List Nat) (g : TG) (te : TE) (σ : St) (vs : List V) (H1 : Hp) (Q : VK) : Prop := ∃ a b xs ys, vs = [.ref a, .ref b] ∧ SqT K H1 a xs ∧ SqL K H1 b ys ∧ ∃ W : Nat → Nat → List V → St → Hp → Prop, (∃ m, W 0 m [] (compSt k js σ) H1) ∧ ∀ i m zs σ' H', W i m zs σ' H' →
    ((ItzN K a b).stop i H' ∧ ∀ p, H' p = none → Q (.ref p) (upd H' p (.lst zs))) ∨
    ((ItzN K a b).go i H' ∧ zs.length < sizeLine ∧ ∃ N : List V → St → Hp → Prop, (∀ zs σ2 H2, N zs σ2 H2 → ∃ m', m' < m ∧ W (i + 1) m' zs σ2 H2) ∧ ∀ x H2, (ItzN K a b).yld i H' x H2 → g x σ' H2 fun σ3 H3 => te σ3 H3 fun v H4 => N (zs ++ [v]) σ3 H4)
theorem comp_eqZN {K : PySem.W.Frag} {k : Nat} {js : List Nat} {ta : TA} {g : TG} {te : TE} {σ : St} {H : Hp} {Q : VK} : tComp (iZipN K ta) k js g te σ H Q = ta σ H fun vs H1 => CompZN K k js g te σ vs H1 Q := rfl
theorem CompZN.mk {K : PySem.W.Frag} {a b : Addr} {xs ys : List V} {k : Nat} {js : List Nat} {g : TG} {te : TE} {Q : VK} {σ : St} {H : Hp} (n : Nat) (hn : n = min xs.length ys.length) (h1 : SqT K H a xs) (h2 : SqL K H b ys) (Pv : Nat → List V → St → Hp → Prop) (h0 : Pv 0 [] (compSt k js σ) H) (hl : ∀ i zs σ H, i ≤ n → Pv i zs σ H → SqT K H a xs ∧ SqL K H b ys)
    (hs : ∀ i x y zs σ H T, i < n → xs[i]? = some x → ys[i]? = some y → Pv i zs σ H → H T = none → zs.length < sizeLine ∧ g (.ref T) σ (upd H T (.tup [x, y])) fun σ3 H3 => te σ3 H3 fun v H4 => Pv (i + 1) (zs ++ [v]) σ3 H4) (hz : ∀ zs σ H, Pv n zs σ H → ∀ p, H p = none → Q (.ref p) (upd H p (.lst zs))) (hlen : ∀ i zs σ H, Pv i zs σ H → zs.length < sizeLine) :
    CompZN K k js g te σ [.ref a, .ref b] H Q := by
  subst hn
  refine ⟨a, b, xs, ys, rfl, h1, h2, fun i m zs σ H => m = min xs.length ys.length - i ∧ i ≤ min xs.length ys.length ∧ Pv i zs σ H, ⟨_, rfl, Nat.zero_le _, h0⟩, ?_⟩
  rintro i m zs σ H ⟨rfl, hi, p⟩
  obtain ⟨k1, k2⟩ := hl i zs σ H hi p
  by_cases hlt : i < min xs.length ys.length
  · have l1 : i < xs.length := by omega
    have l2 : i < ys.length := by omega
    refine .inr ⟨⟨xs, ys, _, _, k1, k2, List.getElem?_eq_getElem l1, List.getElem?_eq_getElem l2⟩, hlen _ _ _ _ p, Pv (i + 1), fun zs' σ' H' p' => ⟨min xs.length ys.length - (i + 1), by omega, rfl, hlt, p'⟩, fun v H' yy => ?_⟩
    obtain ⟨T, x, y, rfl, hT, rfl, ex⟩ := yy
    obtain ⟨ex1, ex2⟩ := ex xs ys k1 k2
    exact (hs i x y zs σ H T hlt ex1 ex2 p hT).2
  · have e : i = min xs.length ys.length := by omega
    exact .inl ⟨⟨xs, ys, k1, k2, by omega⟩, hz zs σ H (e ▸ p)⟩
end L2
namespace L2
open PySem PySem.Spec PyProof.Rows
section
variable {X : Cx}
theorem call_strB : CallR X (.type "str") (fun xs H Q => ∃ b : Bool, xs = [.bl b] ∧ Q (.str (if b then "True" else "False")) H) := by
  intro pins s σ H xs us Q I r h
  obtain ⟨b, rfl, q⟩ := h
  obtain ⟨u, rfl, ru⟩ := vals1 r
  cases (show u = Value.bool b from ru)
  exact PySem.P.str_of_bool ⟨.str _, H, I.tok _, ⟨_, rfl⟩, q⟩
def rInsert : V → List V → Hp → VK → Prop := fun x vs H Q => ∃ l xs i y, x = .ref l ∧ vs = [.int i, y] ∧ H l = some (.lst xs) ∧ 0 ≤ i ∧ i ≤ xs.length ∧ xs.length < sizeLine ∧ Q .non (upd H l (.lst (xs.take i.toNat ++ y :: xs.drop i.toNat)))
end
end L2
namespace L2
open PySem PySem.Spec PyProof.Rows
structure Apart6 (z ti ox j1 j2 j3 t1 t2 t3 : Addr) : Prop where
  ti_z : ti ≠ z
  ox_z : ox ≠ z
  j1_z : j1 ≠ z
  j2_z : j2 ≠ z
  j3_z : j3 ≠ z
  ti_ox : ti ≠ ox
  ti_j1 : ti ≠ j1
  ti_j2 : ti ≠ j2
  ti_j3 : ti ≠ j3
  ox_j1 : ox ≠ j1
  ox_j2 : ox ≠ j2
  ox_j3 : ox ≠ j3
  j12 : j1 ≠ j2
  j13 : j1 ≠ j3
  j23 : j2 ≠ j3
  t1_z : t1 ≠ z
  t2_z : t2 ≠ z
  t2_ox : t2 ≠ ox
  t2_j1 : t2 ≠ j1
  t3_z : t3 ≠ z
  t3_ox : t3 ≠ ox
  t3_j1 : t3 ≠ j1
  t3_j2 : t3 ≠ j2
section
variable {pg : Program} {wd : World} {B : Around} {X0 : Value → Shared → Prop} {s0 : Shared}
end
def Itz3 (K : PySem.W.Frag) (a b c : Addr) : It := ⟨fun i H => ∃ xs ys zs x y z, SqT K H a xs ∧ SqT K H b ys ∧ SqT K H c zs ∧ xs[i]? = some x ∧ ys[i]? = some y ∧ zs[i]? = some z,
  fun i H v H' => ∃ T x y z, v = .ref T ∧ H T = none ∧ H' = upd H T (.tup [x, y, z]) ∧ ∀ xs ys zs, SqT K H a xs → SqT K H b ys → SqT K H c zs → xs[i]? = some x ∧ ys[i]? = some y ∧ zs[i]? = some z, fun i H => ∃ xs, SqT K H a xs ∧ xs.length ≤ i⟩
section
variable {X : Cx} {es : List Expr} {x1 : Nat} {pp : Pos}
def iZip3 (K : PySem.W.Frag) (ta : TA) : TI := fun σ H R => ta σ H fun vs H1 => ∃ a b c xs ys zs, vs = [.ref a, .ref b, .ref c] ∧ SqT K H1 a xs ∧ SqT K H1 b ys ∧ SqT K H1 c zs ∧ R (Itz3 K a b c) H1
end
def CompZ3 (K : PySem.W.Frag) (k : Nat) (js : List Nat) (g : TG) (te : TE) (σ : St) (vs : List V) (H1 : Hp) (Q : VK) : Prop := ∃ a b c xs ys zs, vs = [.ref a, .ref b, .ref c] ∧ SqT K H1 a xs ∧ SqT K H1 b ys ∧ SqT K H1 c zs ∧ ∃ W : Nat → Nat → List V → St → Hp → Prop, (∃ m, W 0 m [] (compSt k js σ) H1) ∧ ∀ i m zs σ' H', W i m zs σ' H' →
    ((Itz3 K a b c).stop i H' ∧ ∀ p, H' p = none → Q (.ref p) (upd H' p (.lst zs))) ∨
    ((Itz3 K a b c).go i H' ∧ zs.length < sizeLine ∧ ∃ N : List V → St → Hp → Prop, (∀ zs σ2 H2, N zs σ2 H2 → ∃ m', m' < m ∧ W (i + 1) m' zs σ2 H2) ∧ ∀ x H2, (Itz3 K a b c).yld i H' x H2 → g x σ' H2 fun σ3 H3 => te σ3 H3 fun v H4 => N (zs ++ [v]) σ3 H4)
theorem comp_eqZ3 {K : PySem.W.Frag} {k : Nat} {js : List Nat} {ta : TA} {g : TG} {te : TE} {σ : St} {H : Hp} {Q : VK} : tComp (iZip3 K ta) k js g te σ H Q = ta σ H fun vs H1 => CompZ3 K k js g te σ vs H1 Q := rfl
theorem CompZ3.mk {K : PySem.W.Frag} {a b c : Addr} {xs ys zs : List V} {k : Nat} {js : List Nat} {g : TG} {te : TE} {Q : VK} {σ : St} {H : Hp} (n : Nat) (hn : n = xs.length) (hy : ys.length = n) (hz : zs.length = n) (h1 : SqT K H a xs) (h2 : SqT K H b ys) (h3 : SqT K H c zs) (Pv : Nat → List V → St → Hp → Prop) (h0 : Pv 0 [] (compSt k js σ) H) (hl : ∀ i us σ H, i ≤ n → Pv i us σ H → SqT K H a xs ∧ SqT K H b ys ∧ SqT K H c zs)
    (hs : ∀ i x y z us σ H T, i < n → xs[i]? = some x → ys[i]? = some y → zs[i]? = some z → Pv i us σ H → H T = none → g (.ref T) σ (upd H T (.tup [x, y, z])) fun σ3 H3 => te σ3 H3 fun v H4 => Pv (i + 1) (us ++ [v]) σ3 H4) (hd : ∀ us σ H, Pv n us σ H → ∀ p, H p = none → Q (.ref p) (upd H p (.lst us))) (hlen : ∀ i us σ H, Pv i us σ H → us.length < sizeLine) :
    CompZ3 K k js g te σ [.ref a, .ref b, .ref c] H Q := by
  subst hn
  refine ⟨a, b, c, xs, ys, zs, rfl, h1, h2, h3, fun i m us σ H => m = xs.length - i ∧ i ≤ xs.length ∧ Pv i us σ H, ⟨_, rfl, Nat.zero_le _, h0⟩, ?_⟩
  rintro i m us σ H ⟨rfl, hi, p⟩
  obtain ⟨k1, k2, k3⟩ := hl i us σ H hi p
  by_cases hlt : i < xs.length
  · refine .inr ⟨⟨xs, ys, zs, _, _, _, k1, k2, k3, List.getElem?_eq_getElem hlt, List.getElem?_eq_getElem (hy ▸ hlt), List.getElem?_eq_getElem (hz ▸ hlt)⟩, hlen _ _ _ _ p, Pv (i + 1), fun us' σ' H' p' => ⟨xs.length - (i + 1), by omega, rfl, hlt, p'⟩, fun v H' yy => ?_⟩
    obtain ⟨T, x, y, z, rfl, hT, rfl, ex⟩ := yy
    obtain ⟨ex1, ex2, ex3⟩ := ex xs ys zs k1 k2 k3
    exact hs i x y z us σ H T hlt ex1 ex2 ex3 p hT
  · have e : i = xs.length := by omega
    exact .inl ⟨⟨xs, k1, by omega⟩, hd us σ H (e ▸ p)⟩
end L2
namespace L2
open PySem PySem.Spec PyProof.Rows
theorem wp_toks {α : Type} {M : Model} {Γ : PySem.Ctx} (n : Nat) (t : Sem α) : ∀ {Q : α → Pos → Shared → Prop} {E : Value → Pos → Shared → Prop} {p : Pos} {s : Shared}, n ≤ s.toks → Sem.wp M Γ t Q E p s → Sem.wp M Γ t (fun a p' s' => Q a p' s' ∧ n ≤ s'.toks) E p s := by
  induction t with
  | pure a => intro Q E p s hn h; exact ⟨h, hn⟩
  | raise e => intro Q E p s hn h; exact h
  | unsupported _ => intro Q E p s hn h; exact h
  | finish _ => intro Q E p s hn h; exact h
  | rule _ k ih => intro Q E p s hn h; exact ih () hn h
  | «at» p' k ih => intro Q E p s hn h; exact ih () hn h
  | load a _ k ih => intro Q E p s hn h; obtain ⟨o, e, h⟩ := h; exact ⟨o, e, ih o hn h⟩
  | update a _ f k ih => intro Q E p s hn h; exact ⟨h.1, ih () hn h.2⟩
  | loadIfAlive a k ih => intro Q E p s hn h; exact ih _ hn h
  | point _ k ih => intro Q E p s hn h; exact ih () hn h
  | register _ _ => intro Q E p s hn h; exact h
  | alloc o k ih => intro Q E p s hn h; exact ih _ hn h
  | fresh k ih => intro Q E p s hn h; exact ih _ (Nat.le_succ_of_le hn) h
  | ask k ih => intro Q E p s hn h; exact ih _ hn h
  | choose src m k ih => intro Q E p s hn h; exact ⟨h.1, ih _ hn h.2⟩
  | os q _ k ih => intro Q E p s hn h; exact ih _ hn h
  | call c hh _ _ k ih =>
    intro Q E p s hn h
    obtain ⟨r, s', hr, h⟩ := h
    exact ⟨r, s', hr, ih r (Nat.le_trans hn (Returns.toks_le hr)) h⟩
  | handled own k ih => intro Q E p s hn h; exact ih _ hn h
  | genState g k ih => intro Q E p s hn h; obtain ⟨st, e, h⟩ := h; exact ⟨st, e, ih _ hn h⟩
  | newGen c k ih => intro Q E p s hn h; exact ih _ hn h
  | resume g r _ k ih => intro Q E p s hn h; obtain ⟨res, s', hw, h⟩ := h; exact ⟨res, s', hw, ih _ (Nat.le_trans hn (Wakes.toks_le hw)) h⟩
  | yield _ _ => intro Q E p s hn h; exact h
  | stack k ih => intro Q E p s hn h; exact ih _ hn h
  | fork _ _ => intro Q E p s hn h; exact h
  | thread k ih => intro Q E p s hn h; exact ih _ hn h
  | await _ _ => intro Q E p s hn h; exact h
theorem any_toks {α : Type} {M : Model} {A : Around} {t : Sem α} {Q : α → Shared → Prop} {E : Value → Shared → Prop} {s : Shared} (n : Nat) (hn : n ≤ s.toks) (h : wpAny M A t Q E s) : wpAny M A t (fun a s' => Q a s' ∧ n ≤ s'.toks) E s := fun Γ p hΓ => wp_toks n t hn (h Γ p hΓ)
section
variable {X : Cx} {st : Stmt} {rest : List Stmt} {t u : TS} {e : Expr} {es : List Expr} {te : TE} {ta : TA} {pos : Pos}
def PET (X : Cx) (e : Expr) (t : TE) : Prop := ∀ (pins : List (Addr × Obj)) (s : Shared) (σ : St) (H : Hp) (Q : VK), 1 ≤ s.toks → Inv X pins σ H s → t σ H Q → wpAny (model X.prog X.w) X.A (eval e X.env) (EP X pins σ Q) X.xe s
def PST (X : Cx) (st : Stmt) (t : TS) : Prop := ∀ (pins : List (Addr × Obj)) (s : Shared) (σ : St) (H : Hp) (D : Ends), 1 ≤ s.toks → Inv X pins σ H s → t D σ H → wpAny (model X.prog X.w) X.A (exec st X.env) (SP X pins D) X.xe s
def PSsT (X : Cx) (st : List Stmt) (t : TS) : Prop := ∀ (pins : List (Addr × Obj)) (s : Shared) (σ : St) (H : Hp) (D : Ends), 1 ≤ s.toks → Inv X pins σ H s → t D σ H → wpAny (model X.prog X.w) X.A (execs st X.env) (SP X pins D) X.xe s
theorem pssT_cons (h1 : PS X st t) (h2 : PSsT X rest u) : PSsT X (st :: rest) (tSeq t u) := by
  intro pins s σ H D k I h
  refine wpAny_execs_cons (thn (any_toks 1 k (h1 pins s σ H { D with nx := u D } I h)) fun f s1 ⟨q, k1⟩ => ?_)
  cases f with
  | next =>
    obtain ⟨σ', H', I', q⟩ := q
    exact h2 pins s1 σ' H' D k1 I' q
  | ret v => exact q
  | brk => exact q
  | cont => exact q
theorem pssT_one (h1 : PST X st t) : PSsT X [st] t := by
  intro pins s σ H D k I h
  refine wpAny_execs_cons (thn (h1 pins s σ H D k I h) fun f s1 q => ?_)
  cases f with
  | next => exact wpAny_execs_nil q
  | ret v => exact q
  | brk => exact q
  | cont => exact q
theorem pss_lit {i : Nat} {x y : Str} {k : Nat} {p pos' : Pos} (hN : X.N.Nodup) (hi : X.N[i]? = some x) (hx : Loc X.env.scope x) (h2 : PSsT X rest u) (hs : swapsWith (.Constant (.str y) k p) (some (.Name x pos')) pos.line X.env = pure false := by rfl) (hf : X.fn x = true ∨ X.env.scope.names.lookup x = some .local := by first | exact .inl rfl | exact .inr rfl | assumption) :
    PSs X (.Assign [.Name x pos'] (.Constant (.str y) k p) pos :: rest) (tSeq (tAsg (tC (.str y)) (gName i)) u) := by
  intro pins s σ H D I h
  refine wpAny_execs_cons (thn (Q := fun f s1 => SP X pins { D with nx := u D } f s1 ∧ 1 ≤ s1.toks) ?_ fun f s1 ⟨q, k1⟩ => ?_)
  · refine wpAny_Assign_Name (Calls.Constant_str ?_) hs
    exact any_toks 1 (Nat.succ_le_succ (Nat.zero_le _)) (store_ok (I.tok _) hN hi hx (show RelV (.str y) (Value.str y s.toks) from ⟨_, rfl⟩) (fun s2 I2 => ⟨_, H, I2, h⟩) hf)
  cases f with
  | next =>
    obtain ⟨σ', H', I', q⟩ := q
    exact h2 pins s1 σ' H' D k1 I' q
  | ret v => exact q
  | brk => exact q
  | cont => exact q
theorem psT_ret (he : PET X e te) : PST X (.Return (some e) pos) (tRet te) := by
  intro pins s σ H D k I h
  exact wpAny_Return_some (thn (he pins s σ H _ k I h) fun v s1 ⟨x, H1, I1, r1, q1⟩ => ⟨x, σ, H1, I1, r1, q1⟩)
theorem pet_pair {a b : Expr} {ta tb : TE} {x1} (ha : PE X a ta) (hb : PET X b tb) (hs : starEach [a, b] X.env = [(false, eval a X.env), (false, eval b X.env)] := by rfl) : PET X (.Tuple [a, b] x1 pos) (tTup (tCons ta (tCons tb tNil))) := by
  intro pins s σ H Q k I hq
  refine wpAny_Tuple_spliced ?_
  rw [hs]
  show wpAny _ _ (spliced ((false, eval a X.env) :: [(false, eval b X.env)])) _ _ s
  refine Calls.spliced_cons (thn (any_toks 1 k (ha pins s σ H _ I hq)) fun v1 s1 ⟨⟨x, H1, I1, r1, q1⟩, k1⟩ => ?_)
  refine Calls.spliced_cons (thn (hb pins s1 σ H1 _ k1 I1 q1) fun v2 s2 ⟨y, H2, I2, r2, q2⟩ => ?_)
  refine Calls.spliced_nil ?_
  obtain ⟨z, q⟩ := q2
  refine ⟨z, ?_⟩
  have hf : H2 s2.heap.objs.size = none := I2.hok.fresh (Nat.le_refl _)
  refine ⟨.ref s2.heap.objs.size, upd H2 s2.heap.objs.size (.tup [x, y]), I2.laid (t' := s2.toks) (fun b u e => Heap.get?_push_of_some _ e) (Nat.le_refl _) ?_, rfl, q _ hf⟩
  exact ⟨z, [v1, v2], .cons r1 (.cons r2 .nil), ⟨_, Heap.get?_push_size _ rfl, rfl, _, rfl⟩⟩
def tRepl (y z : Str) (to : TE) : TE := fun σ H Q => to σ H fun x H1 => ∃ w : Str, x = .str w ∧ w.length ≤ 1000 ∧ (y == z) = false ∧ z.length ≤ 14 ∧ Q (.str (Txt.replace w y z)) H1
theorem pet_repl {o : Expr} {y z : Str} {k1 k2 : Nat} {p1 p2 apos cpos : Pos} {to : TE} (ho : PE X o to)
    (hbase : attributeBase o (Str.ofString "replace") X.env (eval o X.env) = eval o X.env := by rfl)
    (hfew : ((backTo cpos (starEach [.Constant (.str y) k1 p1, .Constant (.str z) k2 p2] X.env)).all (fun x => !x.1) && (backToKw cpos (keywordEach [] X.env)).all (fun x => x.1.isSome)
      && decide (([.Constant (.str y) k1 p1, .Constant (.str z) k2 p2] : List Expr).length + ([] : List Keyword).length + (if ([] : List Keyword).isEmpty then 0 else 1) < 30)) = true := by rfl)
    (hline : (apos.endLine == cpos.line) = true := by rfl) (hs : starEach [.Constant (.str y) k1 p1, .Constant (.str z) k2 p2] X.env = [(false, eval (.Constant (.str y) k1 p1) X.env), (false, eval (.Constant (.str z) k2 p2) X.env)] := by rfl) :
    PET X (.Call (.Attribute o (Str.ofString "replace") apos) [.Constant (.str y) k1 p1, .Constant (.str z) k2 p2] [] cpos) (tRepl y z to) := by
  intro pins s σ H Q k I h
  refine wpAny_Call_method_late hbase hfew hline rfl (thn (any_toks 1 k (ho pins s σ H _ I h)) fun v s1 ⟨⟨x, H1, I1, r1, q1⟩, kk⟩ => ?_)
  obtain ⟨w, rfl, wl, yz, zl, q⟩ := q1
  obtain ⟨h1, h2⟩ := tyV_is I1 r1 (T := "str") rfl
  obtain ⟨tk, rfl⟩ := r1
  refine ⟨"str", "str.replace", PySem.F.plainAttrs_str, PySem.F.slot_str_replace, PySem.F.type_str_replace, h1, h2, ?_⟩
  rw [hs]
  refine Calls.callWith_builtin rfl (Calls.evalArgs_plain ?_)
  show wpAny _ _ (spliced ((false, eval (.Constant (.str y) k1 p1) X.env) :: [(false, eval (.Constant (.str z) k2 p2) X.env)])) _ _ s1
  refine Calls.spliced_cons (Calls.Constant_str (Calls.spliced_cons (Calls.Constant_str (Calls.spliced_nil ?_))))
  refine SC.replace (Nat.ne_of_gt kk) (Nat.succ_ne_zero _) (Nat.ne_of_lt (Nat.lt_succ_self _)) yz ?_ fun t' k' => ⟨.str _, H1, ?_, ⟨t', rfl⟩, q⟩
  · have h3 : (w.length + 1) * z.length ≤ 1001 * 14 := Nat.mul_le_mul (Nat.succ_le_succ wl) zl
    omega
  · exact I1.kept (fun _ _ e => e)
end
end L2
theorem PySem.W.Fast.tw9159915255924842406 : True := trivial
theorem PySem.W.Fast.tw5615215833163227215 : True := trivial
theorem PySem.W.Fast.tw2202727151525927178 : True := trivial
theorem PySem.W.Fast.tw21124127020767114 : True := trivial
theorem PySem.W.Fast.tw1238993639297570026 : True := trivial
theorem PySem.W.Fast.tw16811038778176443317 : True := trivial
theorem PySem.W.Fast.tw12708230532503492611 : True := trivial
theorem PySem.W.Fast.tw15340587053625438461 : True := trivial
theorem PySem.W.Fast.tw4404186358584851489 : True := trivial
theorem PySem.W.Fast.tw6354766031495692792 : True := trivial
theorem PySem.W.Fast.tw7157211917321288576 : True := trivial
theorem PySem.W.Fast.tw9823622274963361998 : True := trivial
theorem PySem.W.Fast.tw5547910839486475260 : True := trivial
theorem PySem.W.Fast.tw13659128921056835718 : True := trivial
theorem PySem.W.Fast.tw6012550425594927511 : True := trivial
theorem PySem.W.Fast.tw7977398669325075348 : True := trivial
theorem PySem.W.Fast.tw1889748724532473288 : True := trivial
theorem PySem.W.Fast.tw3025179357095167003 : True := trivial
theorem PySem.W.Fast.tw13569229782728804739 : True := trivial
theorem PySem.W.Fast.tw9198927678485486142 : True := trivial
theorem PySem.W.Fast.tw15247670991014185434 : True := trivial
theorem PySem.W.Fast.tw527369207766328357 : True := trivial
theorem PySem.W.Fast.tw14918791215137048353 : True := trivial
theorem PySem.W.Fast.tw3758956820927768330 : True := trivial
theorem PySem.W.Fast.tw16191361619070923208 : True := trivial
theorem PySem.W.Fast.tw17401494826340130746 : True := trivial
theorem PySem.W.Fast.tw15773565436544237263 : True := trivial
theorem PySem.W.Fast.tw3349248100972928981 : True := trivial
theorem PySem.W.Fast.tw12979748516619311387 : True := trivial
theorem PySem.W.Fast.tw4102929819428134406 : True := trivial
theorem PySem.W.Fast.tw1643776601945287871 : True := trivial
theorem PySem.W.Fast.tw4130357501482039335 : True := trivial
theorem PySem.W.Fast.tw12536252590978714290 : True := trivial
theorem PySem.W.Fast.tw2409397491690835423 : True := trivial
theorem PySem.W.Fast.tw8388540704605129397 : True := trivial
theorem PySem.W.Fast.tw6123115887529446051 : True := trivial
theorem PySem.W.Fast.tw3824473502530925524 : True := trivial
theorem PySem.W.Fast.tw12931781828568426296 : True := trivial
theorem PySem.W.Fast.tw14154534551717931794 : True := trivial
theorem PySem.W.Fast.tw10571780549383572115 : True := trivial
theorem PySem.W.Fast.tw1717779222100658612 : True := trivial
theorem PySem.W.Fast.tw9746893226068408947 : True := trivial
theorem PySem.W.Fast.tw9394198098834023384 : True := trivial
theorem PySem.W.Fast.tw3780341740482921003 : True := trivial
theorem PySem.W.Fast.tw6053835363842943831 : True := trivial
theorem PySem.W.Fast.tw13627250280417580783 : True := trivial
theorem PySem.W.Fast.tw12634249034377128227 : True := trivial
theorem PySem.W.Fast.tw12195232364622302147 : True := trivial
theorem PySem.W.Fast.tw3873628021139191089 : True := trivial
theorem PySem.W.Fast.tw16893042094607929616 : True := trivial
theorem PySem.W.Fast.tw7277930778109128872 : True := trivial
theorem PySem.W.Fast.tw12768909503675701543 : True := trivial
theorem PySem.W.Fast.tw8213910665002895417 : True := trivial
theorem PySem.W.Fast.tw12029271288495057994 : True := trivial
theorem PySem.W.Fast.tw3355710946270189899 : True := trivial
theorem PySem.W.Fast.tw1458191188622267796 : True := trivial
theorem PySem.W.Fast.tw4227832228595541689 : True := trivial
theorem PySem.W.Fast.tw3637964929356119192 : True := trivial
theorem PySem.W.Fast.tw14192027856429817832 : True := trivial
theorem PySem.W.Fast.tw10321299170454046079 : True := trivial
theorem PySem.W.Fast.tw12030200952665468086 : True := trivial
theorem PySem.W.Fast.tw17011714338898141979 : True := trivial
theorem PySem.W.Fast.tw1415163213642845646 : True := trivial
theorem PySem.W.Fast.tw13143752280499084584 : True := trivial
theorem PySem.W.Fast.tw16742150023235990754 : True := trivial
theorem PySem.W.Fast.tw8003979923228136694 : True := trivial
theorem PySem.W.Fast.tw16446327685614264569 : True := trivial
theorem PySem.W.Fast.tw1302407854062361940 : True := trivial
theorem PySem.W.Fast.tw9815282773148338747 : True := trivial
theorem PySem.W.Fast.tw3369455517106706644 : True := trivial
theorem PySem.W.Fast.tw13981116754526866820 : True := trivial
theorem PySem.W.Fast.tw5661260961753924680 : True := trivial
theorem PySem.W.Fast.tw1646344677251901139 : True := trivial
theorem PySem.W.Fast.tw10128236049178868864 : True := trivial
theorem PySem.W.Fast.tw12299123593667071983 : True := trivial
theorem PySem.W.Fast.tw9986534101091765852 : True := trivial
theorem PySem.W.Fast.tw11077418336451007002 : True := trivial
theorem PySem.W.Fast.tw12567749454728850156 : True := trivial
theorem PySem.W.Fast.tw11997421783225665093 : True := trivial
theorem PySem.W.Fast.tw11769213225903159234 : True := trivial
theorem PySem.W.Fast.tw3570609328365907641 : True := trivial
theorem PySem.W.Fast.tw14859659073867503233 : True := trivial
theorem PySem.W.Fast.tw9876552998640701540 : True := trivial
theorem PySem.W.Fast.tw15527408457429435387 : True := trivial
theorem PySem.W.Fast.tw9453871149638413917 : True := trivial
theorem PySem.W.Fast.tw16591368480128433753 : True := trivial
theorem PySem.W.Fast.tw5581293110442600479 : True := trivial
theorem PySem.W.Fast.tw18278138977670547664 : True := trivial
theorem PySem.W.Fast.tw18017468819151361562 : True := trivial
theorem PySem.W.Fast.tw15222616019809801427 : True := trivial
theorem PySem.W.Fast.tw10381745750766579297 : True := trivial
theorem PySem.W.Fast.tw6518706647607267945 : True := trivial
theorem PySem.W.Fast.tw6409301174990779598 : True := trivial
theorem PySem.W.Fast.tw13801427739029405544 : True := trivial
theorem PySem.W.Fast.tw999651876936285979 : True := trivial
theorem PySem.W.Fast.tw8186004445213589596 : True := trivial
theorem PySem.W.Fast.tw9001660001801071136 : True := trivial
theorem PySem.W.Fast.tw9973289196925082018 : True := trivial
theorem PySem.W.Fast.tw12866094439738410295 : True := trivial
theorem PySem.W.Fast.tw5319560184542294563 : True := trivial
theorem PySem.W.Fast.tw9397791289205198993 : True := trivial
theorem PySem.W.Fast.tw5036953266056639987 : True := trivial
theorem PySem.W.Fast.tw8699389982728193887 : True := trivial
theorem PySem.W.Fast.tw11949643405976940729 : True := trivial
theorem PySem.W.Fast.tw123822001383286840 : True := trivial
theorem PySem.W.Fast.tw2058672157243620275 : True := trivial
theorem PySem.W.Fast.tw10307135041067419834 : True := trivial
theorem PySem.W.Fast.tw10839021126202211275 : True := trivial
theorem PySem.W.Fast.tw2418482285420719243 : True := trivial
theorem PySem.W.Fast.tw15169256027487484500 : True := trivial
theorem PySem.W.Fast.tw15035624310464132255 : True := trivial
theorem PySem.W.Fast.tw10099057090630286356 : True := trivial
theorem PySem.W.Fast.tw9896279730301729818 : True := trivial
theorem PySem.W.Fast.tw2956766705463271067 : True := trivial
theorem PySem.W.Fast.tw9757422744629555918 : True := trivial
theorem PySem.W.Fast.tw17435651838892029780 : True := trivial
theorem PySem.W.Fast.tw9350464496553611929 : True := trivial
theorem PySem.W.Fast.tw865411067996409910 : True := trivial
theorem PySem.W.Fast.tw13041324240953313931 : True := trivial
theorem PySem.W.Fast.tw13237750641450663102 : True := trivial
theorem PySem.W.Fast.tw15988526083752640550 : True := trivial
theorem PySem.W.Fast.tw1873990700163838234 : True := trivial
theorem PySem.W.Fast.tw10514932940672135295 : True := trivial
theorem PySem.W.Fast.tw18109627748616082266 : True := trivial
theorem PySem.W.Fast.tw13585310282669854058 : True := trivial
theorem PySem.W.Fast.tw11446841957056564644 : True := trivial
theorem PySem.W.Fast.tw16017711041283933083 : True := trivial
theorem PySem.W.Fast.tw8044536395903819237 : True := trivial
theorem PySem.W.Fast.tw18443013901811172366 : True := trivial
theorem PySem.W.Fast.tw13660126959937950163 : True := trivial
theorem PySem.W.Fast.tw16337637463938173669 : True := trivial
theorem PySem.W.Fast.tw6840100882944931640 : True := trivial
theorem PySem.W.Fast.tw15497326134059236277 : True := trivial
theorem PySem.W.Fast.tw7790484968705407398 : True := trivial
theorem PySem.W.Fast.tw16204965418305184849 : True := trivial
theorem PySem.W.Fast.tw5253874922388932224 : True := trivial
theorem PySem.W.Fast.tw13669587775579610833 : True := trivial

namespace My
open PySem L2 PyProof.Rows
local macro_rules | `(tactic| wp_walk using $xs:term,*) => `(tactic| simp only [rPopAt, rCount, tBMf, rStarts, rSlStrX, tKTab, rKTab, tKIn, for_eqZM, comp_eqZM, comp_eqTI, gTup, rJoinD, rJoinW, rMulS, rIxQ, rExtend, rSplit, rInN, rMulC, tDGet1, tDIn, sDPut, tDNewK, rRep, rExtendT, rUpdate, rEqD, rNeD, for_eqQ, comp_eqQ, for_eqVL, tTryA, caughtA, catchA, tCalV, tLam, for_eqE, rIndex, for_eqZN, comp_eqZN, rInsert, comp_eqZ3, tRepl, for_eqZL, comp_eqZL, rCatL, for_eqX, comp_eqX, rFind, tFR, rSlStr, rUpper, rJoin, tBM0, tBM, tyV, for_eqEL, rSlTA, comp_eqE, comp_eqEI, rNeT, rNeL, tRaise, tTry, tCallX, caughtBy, goneEnds, tTupRev, rCatA, rEqL, rEqT, for_eqV, for_eqZ, comp_eqZ, for_eqR3, comp_eqR3, rCatS, rSlTS, tSl, tNoPart, tPart, rSetL, gSub, rIxT, tRet, tRetN, tNext, tVar, tC, tOp, tUn, rI, rI0, rU, rEq, rNe, tTest, tB, tNot, tAnd, tOr, tAndV, tOrV, tNotV, tIf, tCall, tCB, tNil, tCons, tChain, tLst, tTup, tAsg, gName, tDrop, tNever, rIxL, rCat, CPow, CMul, CDiv, CDivN, CDivW, L2.start, scal, for_eqL, for_eqT, for_eqR1, for_eqR2, comp_eqL, comp_eqT, comp_eqR1, cxOf_K, cxComp_K, isi_ii, isi_ib, isi_bi, isi_bb, isi_it, tyS, tApp, gTupH, gCons, gNil, rInT, rInL, rIxLH, rIxTH, flatV, upd_same, HO.lst.injEq, HO.tup.injEq, List.any_cons, List.any_nil, List.all_cons, List.all_nil, Bool.or_false, Bool.and_self, Bool.and_true, Bool.or_eq_true, beq_iff_eq, V.int.injEq, V.bl.injEq, V.str.injEq, V.ref.injEq, V.ty.injEq, List.map_cons, List.map_nil, List.length_cons, List.length_nil, List.cons_append, List.nil_append, List.getElem?_cons_zero, List.getElem?_cons_succ, Option.some.injEq, exists_eq_left', exists_eq_left, exists_and_left, List.cons.injEq, and_true, true_and, and_assoc, decide_eq_true_eq, List.set_cons_zero, List.set_cons_succ, List.replicate, Nat.sub_self, List.append_nil, Nat.add_sub_cancel, Nat.reduceAdd, Nat.reduceSub, Int.reduceLT, Int.reduceLE, Int.reduceNeg, Int.reduceSub, Int.reduceAdd, Int.reducePow, Int.reduceToNat, na2, na10, Nat.reducePow, Nat.reduceLT, if_true, if_false, Bool.not_true, Bool.not_false, Bool.false_eq_true, List.mem_cons, List.not_mem_nil, eq_self, true_or, or_true, or_false, false_or, String.reduceEq, Option.isSome_some, ne_eq, not_false_eq_true, not_true_eq_false, Bool.not_eq_true', decide_eq_false_iff_not, Bool.true_eq_false, $[$xs:term],*])
def top (i : Nat) : Stmt := PySem.Challenge.pw_sideloom_k23_whole_chains_of_views.main.body.getD i (.Pass ⟨0, 0, 0, 0⟩)
def prodI (ns : List Int) : Int := ns.foldl (fun a b => a * b) 1
theorem prod_step {ns : List Int} {i : Nat} {x : Int} (h : ns[i]? = some x) : prodI (ns.take (i + 1)) = prodI (ns.take i) * x := by
  unfold prodI
  rw [List.take_add_one, h, List.foldl_append]
  rfl
def sdOk (ns : List Int) : Prop := ∀ n ∈ ns, 0 ≤ n ∧ n < 1000000000000000000
def one1 (n : Int) : Int := if n = 0 then 1 else n
theorem one_ok {ns : List Int} (h : sdOk ns) : sdOk (ns.map one1) := by
  intro n hn
  obtain ⟨m, hm, rfl⟩ := List.mem_map.mp hn
  have := h m hm
  unfold one1
  split <;> omega
theorem sd_at {ns : List Int} (h : sdOk ns) {i : Nat} {x : V} (e : (ns.map V.int)[i]? = some x) : ∃ m, x = .int m ∧ ns[i]? = some m ∧ 0 ≤ m ∧ m < 1000000000000000000 := by
  rw [List.getElem?_map] at e
  cases q : ns[i]? with
  | none => rw [q] at e; cases e
  | some m =>
    rw [q] at e
    exact ⟨m, (Option.some.inj e).symm, rfl, h m (List.mem_of_getElem? q)⟩
def stP (ns : List Int) (j : Nat) : Int := prodI (ns.reverse.take j)
def stL (ns : List Int) (i : Nat) : List Int := (List.range i).map (stP ns)
theorem stL_succ (ns : List Int) (i : Nat) : stL ns (i + 1) = stL ns i ++ [stP ns i] := by
  unfold stL; rw [List.range_succ, List.map_append]; rfl
theorem stP_succ {ns : List Int} {i : Nat} {m : Int} (hi : i < ns.length) (h : ns[ns.length - 1 - i]? = some m) : stP ns (i + 1) = stP ns i * m := by
  unfold stP
  exact prod_step (by rw [List.getElem?_reverse hi]; exact h)
def bigI (ns : List Int) : Prop := 6 < ns.length ∨ 512 < prodI (ns.map one1)
def spallowed (C : Addr) : Sp := fun vs H Q E => ∃ (a : Addr) (ns : List Int), vs = [.ref a] ∧ H a = some (.tup (ns.map V.int)) ∧ sdOk ns ∧ ns.length ≤ 63 ∧ (bigI ns → ∀ H', Same H H' → E (.ref C) none H') ∧ (¬ bigI ns → ∀ H', Same H H' → Q (.ref a) H')
theorem seq_with {A B : TS} {D : Ends} {σ : L2.St} {H : Hp} (J : L2.St → Hp → Prop) (h2 : ∀ σ H, J σ H → B D σ H) (h1 : ∀ R : L2.St → Hp → Prop, (∀ σ H, J σ H → R σ H) → A { D with nx := R } σ H) : tSeq A B D σ H := h1 (B D) h2
theorem mx_one {n : Int} (h : 0 ≤ n) : (if n > 1 then n else 1) = one1 n := by
  unfold one1
  by_cases h1 : n = 0
  · rw [if_pos h1, if_neg (by omega)]
  · rw [if_neg h1]; split <;> omega
theorem len_map (ns : List Int) : (ns.map V.int).length = ns.length := List.length_map ..
def good (ns ms : List Int) : Prop := ms.length = ns.length ∧ ∀ (i : Nat) m n, ms[i]? = some m → ns[i]? = some n → 0 ≤ m ∧ m < n
def dotI (ms ss : List Int) : Int := (List.zipWith (fun a b => a * b) ms ss).sum
theorem int_at {ms : List Int} {i : Nat} {y : V} (ey : (ms.map V.int)[i]? = some y) : ∃ m, y = .int m ∧ ms[i]? = some m := by
  rw [List.getElem?_map] at ey
  cases q : ms[i]? with
  | none => rw [q] at ey; cases ey
  | some m => rw [q] at ey; exact ⟨m, (Option.some.inj ey).symm, rfl⟩
theorem prod_app (xs : List Int) (y : Int) : prodI (xs ++ [y]) = prodI xs * y := by unfold prodI; rw [List.foldl_append]; rfl
theorem prod_from (xs : List Int) : ∀ a : Int, xs.foldl (fun a b => a * b) a = a * prodI xs := by
  induction xs with
  | nil => intro a; show a = a * 1; rw [Int.mul_one]
  | cons x xs ih => intro a; show xs.foldl (fun a b => a * b) (a * x) = a * (xs.foldl (fun a b => a * b) (1 * x)); rw [ih, ih (1 * x), Int.one_mul, Int.mul_assoc]
theorem prod_cons (x : Int) (xs : List Int) : prodI (x :: xs) = x * prodI xs := by
  show xs.foldl (fun a b => a * b) (1 * x) = _
  rw [prod_from, Int.one_mul]
def rep0 (n : Nat) : List Int := List.replicate n 0
theorem rep0_len (n : Nat) : (rep0 n).length = n := List.length_replicate ..
theorem rep0_flat (n : Nat) : (List.replicate n [V.int 0]).flatten = (rep0 n).map V.int := by unfold rep0; rw [List.flatten_replicate_singleton, List.map_replicate]
def fit (ns : List Int) : Prop := (∀ n ∈ ns, 0 ≤ n ∧ n ≤ 512) ∧ ns.length ≤ 6 ∧ 1 ≤ prodI (ns.map one1) ∧ prodI (ns.map one1) ≤ 512
def grow (ns : List Int) (free : Int) (i : Nat) : Prop := (∀ n ∈ ns, 0 ≤ n ∧ n ≤ 512) ∧ ns.length = i ∧ 1 ≤ free ∧ free ≤ 512 ∧ 1 ≤ prodI (ns.map one1) ∧ free * prodI (ns.map one1) ≤ 512
theorem grow_fit {ns : List Int} {free : Int} {i : Nat} (h : grow ns free i) (hi : i ≤ 6) : fit ns := by
  obtain ⟨h1, h2, h3, h4, h5, h6⟩ := h
  refine ⟨h1, by omega, h5, ?_⟩
  have := Int.mul_le_mul_of_nonneg_right h3 (show 0 ≤ prodI (ns.map one1) by omega)
  omega
theorem grow_step {ns : List Int} {free m : Int} {i : Nat} (h : grow ns free i) (m0 : 0 ≤ m) (m1 : m ≤ free) : grow (ns ++ [m]) (free / one1 m) (i + 1) := by
  obtain ⟨h1, h2, h3, h4, h5, h6⟩ := h
  have o1 : 1 ≤ one1 m ∧ one1 m ≤ free := by unfold one1; split <;> omega
  have d1 : 1 ≤ free / one1 m := by rw [Int.le_ediv_iff_mul_le (by omega)]; omega
  have d2 : free / one1 m * one1 m ≤ free := Int.ediv_mul_le _ (by omega)
  have d3 : free / one1 m ≤ 512 := Int.le_trans (Int.ediv_le_self _ (by omega)) h4
  have e : prodI ((ns ++ [m]).map one1) = prodI (ns.map one1) * one1 m := by rw [List.map_append]; exact prod_app _ _
  refine ⟨fun n hn => ?_, by rw [List.length_append, h2]; rfl, d1, d3, ?_, ?_⟩
  · rcases List.mem_append.mp hn with hn | hn
    · exact h1 n hn
    · cases List.mem_singleton.mp hn; omega
  · rw [e]
    have := Int.mul_le_mul_of_nonneg_right h5 (show 0 ≤ one1 m by omega)
    omega
  · rw [e]
    have z1 : free / one1 m * (prodI (ns.map one1) * one1 m) = free / one1 m * one1 m * prodI (ns.map one1) := by rw [Int.mul_comm (prodI _), Int.mul_assoc]
    have z2 := Int.mul_le_mul_of_nonneg_right d2 (show 0 ≤ prodI (ns.map one1) by omega)
    omega
def Pair (H : Hp) (p : Addr) (w : String) (ms : List Int) : Prop := ∃ q, H p = some (.tup [.str w, .ref q]) ∧ H q = some (.tup (ms.map V.int))
theorem Pair.same {H H' : Hp} {p : Addr} {w : String} {ms : List Int} (h : Pair H p w ms) (s : Same H H') : Pair H' p w ms := let ⟨q, a, b⟩ := h; ⟨q, s _ _ a, s _ _ b⟩
def off (ns : List Int) (side : Int) : Prop := side < 0 ∨ (ns.length : Int) ≤ side
def bad (ns : List Int) (side first many step : Int) : Prop := first < 0 ∨ many < 0 ∨ step < 1 ∨ (0 < many ∧ ns.getD side.toNat 0 ≤ first + (many - 1) * step)
def spask (C : Addr) : Sp := fun vs H Q E => ∃ (a : Addr) (ns : List Int) (side : Int), vs = [.ref a, .int side] ∧ H a = some (.tup (ns.map V.int)) ∧ (off ns side → E (.ref C) none H) ∧ (¬ off ns side → Q .non H)
def spflip (C : Addr) : Sp := fun vs H Q E => ∃ (a : Addr) (ns : List Int) (side : Int), vs = [.ref a, .int side] ∧ H a = some (.tup (ns.map V.int)) ∧ (off ns side → E (.ref C) none H) ∧ (¬ off ns side → Q (.ref a) H)
def spfolded (C : Addr) : Sp := fun vs H Q E => ∃ (a : Addr) (ns : List Int) (side : Int), vs = [.ref a, .int side] ∧ H a = some (.tup (ns.map V.int)) ∧ ns.length ≤ 63 ∧ (off ns side → E (.ref C) none H) ∧ (¬ off ns side → ∀ H' p, Same H H' → H' p = some (.tup ((ns.eraseIdx side.toNat).map V.int)) → Q (.ref p) H')
def spcut (C D : Addr) : Sp := fun vs H Q E => ∃ (a : Addr) (ns : List Int) (side first many step : Int), vs = [.ref a, .int side, .int first, .int many, .int step] ∧ H a = some (.tup (ns.map V.int)) ∧ ns.length ≤ 63 ∧ -100 < many ∧ many < 1000000 ∧ (off ns side → E (.ref C) none H) ∧ (¬ off ns side → bad ns side first many step → E (.ref D) none H) ∧ (¬ off ns side → ¬ bad ns side first many step → ∀ H' p, Same H H' → H' p = some (.tup ((ns.set side.toNat many).map V.int)) → Q (.ref p) H')
theorem cut_lo {ns : List Int} {k : Nat} (h : k ≤ ns.length) : cutV (ns.map V.int) none (some (k : Int)) = (ns.take k).map V.int := by
  unfold cutV; simp only [HT.sIx, len_map]; rw [if_neg (by omega), List.drop_zero, List.map_take]; congr 1; omega
theorem cut_hi {ns : List Int} {k : Nat} (h : k ≤ ns.length) : cutV (ns.map V.int) (some (k : Int)) none = (ns.drop k).map V.int := by
  unfold cutV; simp only [HT.sIx, len_map]; rw [if_neg (by omega), List.map_drop, show min (k : Int).toNat ns.length = k by omega, List.take_of_length_le (by simp)]
theorem at_ok {ns : List Int} {side : Int} (h : ¬ off ns side) : ∃ k : Nat, side = k ∧ k < ns.length := by
  unfold off at h
  exact ⟨side.toNat, by omega, by omega⟩
theorem atI_ok {ns : List Int} {k : Nat} (h : k < ns.length) : atI (ns.map V.int) (k : Int) = some (.int (ns.getD k 0)) := atI_nat (by rw [List.getElem?_map, List.getElem?_eq_getElem h, List.getD_eq_getElem?_getD, List.getElem?_eq_getElem h]; rfl)
instance (ns : List Int) : Decidable (bigI ns) := by unfold bigI; infer_instance
theorem cut_any (ns : List Int) (k : Nat) : cutV (ns.map V.int) none (some (k : Int)) = (ns.take k).map V.int := by
  unfold cutV; simp only [HT.sIx, len_map]; rw [if_neg (by omega), List.drop_zero, Nat.sub_zero, ← List.map_take]; congr 1
  by_cases c : k ≤ ns.length
  · congr 1; omega
  · rw [List.take_of_length_le (by omega), List.take_of_length_le (by omega)]
theorem eqVs_dec : ∀ (ns ms : List Int), eqVs (ns.map V.int) (ms.map V.int) = decide (ns = ms)
  | [], [] => rfl
  | [], m :: ms => by simp [eqVs]
  | n :: ns, [] => by simp [eqVs]
  | n :: ns, m :: ms => by
    by_cases e : n = m
    · subst e; simp [eqVs, eqV, eqVs_dec ns ms]
    · simp [eqVs, eqV, eqVs_dec ns ms, e]
def spled (C : Addr) : Sp := fun vs H Q E => ∃ (a b : Addr) (ns ms : List Int), vs = [.ref a, .ref b] ∧ H a = some (.tup (ns.map V.int)) ∧ H b = some (.tup (ms.map V.int)) ∧ (¬ ms.take ns.length = ns → ∀ H', Same H H' → E (.ref C) none H') ∧ (ms.take ns.length = ns → ∀ H', Same H H' → Q (.ref b) H')
def tups (H : Hp) (ps : List Addr) (L : List (List Int)) : Prop := ps.length = L.length ∧ ∀ (i : Nat) p m, ps[i]? = some p → L[i]? = some m → H p = some (.tup (m.map V.int))
theorem tups.same {H H' : Hp} {ps : List Addr} {L : List (List Int)} (h : tups H ps L) (s : Same H H') : tups H' ps L := ⟨h.1, fun i p m a b => s _ _ (h.2 i p m a b)⟩
theorem tups.at {H : Hp} {ps : List Addr} {L : List (List Int)} (h : tups H ps L) {i : Nat} {v : V} (e : (ps.map V.ref)[i]? = some v) : ∃ p m, v = .ref p ∧ L[i]? = some m ∧ m ∈ L ∧ H p = some (.tup (m.map V.int)) := by
  rw [List.getElem?_map] at e
  cases q : ps[i]? with
  | none => rw [q] at e; cases e
  | some p =>
    rw [q] at e
    have hi := (List.getElem?_eq_some_iff.mp q).1
    rw [h.1] at hi
    have z := List.getElem?_eq_getElem hi
    exact ⟨p, L[i], (Option.some.inj e).symm, z, List.getElem_mem hi, h.2 i p _ q z⟩
theorem tups.snoc {H : Hp} {ps : List Addr} {L : List (List Int)} {p : Addr} {m : List Int} (h : tups H ps L) (hp : H p = some (.tup (m.map V.int))) : tups H (ps ++ [p]) (L ++ [m]) := by
  refine ⟨by rw [List.length_append, List.length_append, h.1]; rfl, fun i p' m' a b => ?_⟩
  by_cases c : i < ps.length
  · rw [List.getElem?_append_left c] at a
    rw [List.getElem?_append_left (by rw [← h.1]; exact c)] at b
    exact h.2 i p' m' a b
  · have e : i = ps.length := by have := (List.getElem?_eq_some_iff.mp a).1; simp at this; omega
    subst e
    rw [List.getElem?_append_right (Nat.le_refl _), Nat.sub_self] at a
    rw [h.1, List.getElem?_append_right (Nat.le_refl _), Nat.sub_self] at b
    cases a; cases b; exact hp
theorem tups.take {H : Hp} {ps : List Addr} {L : List (List Int)} (h : tups H ps L) (k : Nat) : tups H (ps.take k) (L.take k) := by
  refine ⟨by rw [List.length_take, List.length_take, h.1], fun i p m a b => ?_⟩
  have c : i < k := by have := (List.getElem?_eq_some_iff.mp a).1; rw [List.length_take] at this; omega
  rw [List.getElem?_take_of_lt c] at a b
  exact h.2 i p m a b
def sm (ns : List Int) : Prop := ∀ n ∈ ns, 0 ≤ n ∧ n ≤ 1000000
instance (ns : List Int) : Decidable (bigI ns) := by unfold bigI; infer_instance
def turnOk (n : Nat) (os : List Int) : Prop := os.Perm (upL n)
theorem up_mem {n : Nat} {x : Int} : x ∈ upL n ↔ 0 ≤ x ∧ x < n := by
  unfold upL
  constructor
  · intro h; obtain ⟨i, hi, rfl⟩ := List.mem_map.mp h; have := List.mem_range.mp hi; omega
  · intro h; exact List.mem_map.mpr ⟨x.toNat, List.mem_range.mpr (by omega), by omega⟩
theorem up_len (n : Nat) : (upL n).length = n := by simp [upL]
theorem up_pw (n : Nat) : (upL n).Pairwise (· ≤ ·) := by
  unfold upL
  rw [List.pairwise_map]
  exact List.Pairwise.imp (fun h => by omega) (List.pairwise_lt_range (n := n))
theorem up_nd (n : Nat) : (upL n).Nodup := by
  unfold upL
  exact List.Pairwise.map _ (fun a b (h : a ≠ b) => by omega) List.nodup_range
theorem sorted_eq : ∀ {l1 l2 : List Int}, l1.Perm l2 → l1.Pairwise (· ≤ ·) → l2.Pairwise (· ≤ ·) → l1 = l2
  | [], l2, p, _, _ => (List.nil_perm.mp p).symm
  | a :: l1, l2, p, h1, h2 => by
    cases l2 with
    | nil => exact List.perm_nil.mp p
    | cons b l2 =>
      obtain ⟨a1, a2⟩ := List.pairwise_cons.mp h1
      obtain ⟨b1, b2⟩ := List.pairwise_cons.mp h2
      have ab : a ≤ b := by
        rcases List.mem_cons.mp (p.symm.subset (List.mem_cons_self ..)) with e | e
        · omega
        · exact a1 b e
      have ba : b ≤ a := by
        rcases List.mem_cons.mp (p.subset (List.mem_cons_self ..)) with e | e
        · omega
        · exact b1 a e
      have e : a = b := by omega
      subst e
      rw [sorted_eq (List.perm_cons a |>.mp p) a2 b2]
theorem turn_sorted {n : Nat} {os ss : List Int} (p : ss.Perm os) (s : ss.Pairwise (· ≤ ·)) : ss = upL n ↔ turnOk n os :=
  ⟨fun e => p.symm.trans (by rw [e]), fun t => sorted_eq (p.trans t) s (up_pw n)⟩
def turnL (ns os : List Int) : List Int := os.map fun k => ns.getD k.toNat 0
theorem at_in {ns : List Int} {o : Int} (h0 : 0 ≤ o) (h1 : o < ns.length) : atI (ns.map V.int) o = some (.int (ns.getD o.toNat 0)) := by
  have z := atI_ok (ns := ns) (k := o.toNat) (by omega)
  rwa [show ((o.toNat : Nat) : Int) = o by omega] at z
theorem ixN_nat {n k : Nat} (h : k < n) : ixN n (k : Int) = some k := by
  unfold ixN; rw [if_pos (by omega), if_pos (by omega)]; simp
theorem map_erase (xs : List Int) (k : Nat) : (xs.map V.int).eraseIdx k = (xs.eraseIdx k).map V.int := by
  rw [List.eraseIdx_eq_take_drop_succ, List.eraseIdx_eq_take_drop_succ, List.map_append, List.map_take, List.map_drop]
theorem cut_anyH (ns : List Int) (k : Nat) : cutV (ns.map V.int) (some (k : Int)) none = (ns.drop k).map V.int := by
  unfold cutV; simp only [HT.sIx, len_map]; rw [if_neg (by omega), List.take_of_length_le (by simp), ← List.map_drop]; congr 1
  by_cases c : k ≤ ns.length
  · congr 1; omega
  · rw [List.drop_eq_nil_of_le (by omega), List.drop_eq_nil_of_le (by omega)]
def insL (ns : List Int) (k : Nat) (m : Int) : List Int := ns.take k ++ [m] ++ ns.drop k
def off1 (ns : List Int) (side : Int) : Prop := side < 0 ∨ (ns.length : Int) < side
theorem ins_len (ns : List Int) (k : Nat) (m : Int) : (insL ns k m).length = ns.length + 1 := by
  unfold insL; simp only [List.length_append, List.length_take, List.length_drop, List.length_cons, List.length_nil]; omega
def VwAt (H : Hp) (v : Addr) (ns : List Int) (st : Int) (ss : List Int) : Prop := ∃ sa ta, H v = some (.tup [.ref sa, .int st, .ref ta]) ∧ H sa = some (.tup (ns.map V.int)) ∧ H ta = some (.tup (ss.map V.int))
theorem VwAt.same {H H' : Hp} {v : Addr} {ns : List Int} {st : Int} {ss : List Int} (h : VwAt H v ns st ss) (s : Same H H') : VwAt H' v ns st ss := let ⟨sa, ta, a, b, c⟩ := h; ⟨sa, ta, s _ _ a, s _ _ b, s _ _ c⟩
theorem get_some {ns : List Int} {k : Nat} (hk : k < ns.length) : ns[k]? = some (ns.getD k 0) := by rw [List.getD_eq_getElem?_getD, List.getElem?_eq_getElem hk]; rfl
theorem ins_ok {ns : List Int} {k : Nat} {m : Int} (h : sdOk ns) (h0 : 0 ≤ m) (h1 : m < 1000000) : sdOk (insL ns k m) := fun n hn => by
  unfold insL at hn
  rcases List.mem_append.mp hn with hn | hn
  · rcases List.mem_append.mp hn with hn | hn
    · exact h n (List.mem_of_mem_take hn)
    · cases List.mem_singleton.mp hn; omega
  · exact h n (List.mem_of_mem_drop hn)
def spspr (C1 C2 C3 : Addr) : Sp := fun vs H Q E => ∃ (a : Addr) (ns : List Int) (side many : Int), vs = [.ref a, .int side, .int many] ∧ H a = some (.tup (ns.map V.int)) ∧ sdOk ns ∧ ns.length ≤ 20 ∧ many < 1000000 ∧ (off1 ns side → E (.ref C1) none H) ∧ (¬ off1 ns side → many < 0 → E (.ref C2) none H) ∧ (¬ off1 ns side → ¬ many < 0 → bigI (insL ns side.toNat many) → ∀ H', Same H H' → E (.ref C3) none H') ∧ (¬ off1 ns side → ¬ many < 0 → ¬ bigI (insL ns side.toNat many) → ∀ H' p, Same H H' → H' p = some (.tup ((insL ns side.toNat many).map V.int)) → Q (.ref p) H')
theorem at_int {r : List Int} {i x : Int} (i0 : 0 ≤ i) (h : r[i.toNat]? = some x) : atI (r.map V.int) i = some (.int x) := by
  have z := atI_nat (xs := r.map V.int) (j := i.toNat) (v := .int x) (by rw [List.getElem?_map, h]; rfl)
  rwa [show ((i.toNat : Nat) : Int) = i by omega] at z
theorem div_div {p B n : Int} (hn : 0 < n) : p / (B * n) = p / n / B := by
  rw [Int.mul_comm, Int.ediv_mul, if_neg (by omega), Int.add_zero]
theorem repT0 {H : Hp} {p : Addr} {n : Nat} {Q : VK} (hp : H p = some (.tup [V.int 0])) (hn : n ≤ 63) (q : ∀ r H', Same H H' → H' r = some (.tup ((rep0 n).map V.int)) → Q (.ref r) H') : rRepT (V.ref p) (V.int (n : Int)) H Q := by
  refine ⟨p, _, _, rfl, rfl, hp, by simp, ⟨by omega, by omega⟩, ?_, fun e => ?_, fun e r hr => ?_⟩
  · rw [Int.toNat_natCast]; exact small (by simp; omega)
  · have e : n = 1 := by omega
    subst e
    exact q p H (Same.refl _) hp
  · refine q r _ (same_new hr _) ?_
    rw [upd_same, Int.toNat_natCast, rep0_flat]
def spturnP (C : Addr) : Sp := fun vs H Q E => ∃ (a b : Addr) (ns os : List Int), vs = [.ref a, .ref b] ∧ H a = some (.tup (ns.map V.int)) ∧ H b = some (.tup (os.map V.int)) ∧ ns.length ≤ 20 ∧ os.length ≤ 20 ∧ (¬ turnOk ns.length os → ∀ H', Same H H' → E (.ref C) none H') ∧ (turnOk ns.length os → ∀ H' p, Same H H' → H' p = some (.tup ((turnL ns os).map V.int)) → Q (.ref p) H')
def vwOk (ns ss : List Int) : Prop := sdOk ns ∧ ns.length ≤ 6 ∧ ns.length ≤ ss.length ∧ ss.length ≤ 90
def smI (n : Int) : Prop := -18446744073709551616 < n ∧ n < 18446744073709551616
def spvturn (C : Addr) : Sp := fun vs H Q E => ∃ (v b : Addr) (ns ss os : List Int) (st : Int), vs = [.ref v, .ref b] ∧ VwAt H v ns st ss ∧ vwOk ns ss ∧ H b = some (.tup (os.map V.int)) ∧ os.length ≤ 20 ∧ (¬ turnOk ns.length os → ∀ H', Same H H' → E (.ref C) none H') ∧ (turnOk ns.length os → ∀ H' p, Same H H' → VwAt H' p (turnL ns os) st (turnL ss os ++ ss.drop ns.length) → Q (.ref p) H')
def spvflip (C : Addr) : Sp := fun vs H Q E => ∃ (v : Addr) (ns ss : List Int) (st side : Int), vs = [.ref v, .int side] ∧ VwAt H v ns st ss ∧ vwOk ns ss ∧ (off ns side → E (.ref C) none H) ∧ (¬ off ns side → ∀ H' p, Same H H' → VwAt H' p ns (st + (ns.getD side.toNat 0 - 1) * ss.getD side.toNat 0) (ss.set side.toNat (-ss.getD side.toNat 0)) → Q (.ref p) H')
def spvcut (C D : Addr) : Sp := fun vs H Q E => ∃ (v : Addr) (ns ss : List Int) (st side first many step : Int), vs = [.ref v, .int side, .int first, .int many, .int step] ∧ VwAt H v ns st ss ∧ vwOk ns ss ∧ smI first ∧ smI step ∧ -100 < many ∧ many < 1000000 ∧ (off ns side → E (.ref C) none H) ∧ (¬ off ns side → bad ns side first many step → E (.ref D) none H) ∧ (¬ off ns side → ¬ bad ns side first many step → ∀ H' p, Same H H' → VwAt H' p (ns.set side.toNat many) (st + first * ss.getD side.toNat 0) (ss.set side.toNat (ss.getD side.toNat 0 * step)) → Q (.ref p) H')
def spvspread (C1 C2 C3 : Addr) : Sp := fun vs H Q E => ∃ (v : Addr) (ns ss : List Int) (st side many : Int), vs = [.ref v, .int side, .int many] ∧ VwAt H v ns st ss ∧ vwOk ns ss ∧ many < 1000000 ∧ (off1 ns side → E (.ref C1) none H) ∧ (¬ off1 ns side → many < 0 → E (.ref C2) none H) ∧ (¬ off1 ns side → ¬ many < 0 → bigI (insL ns side.toNat many) → ∀ H', Same H H' → E (.ref C3) none H') ∧ (¬ off1 ns side → ¬ many < 0 → ¬ bigI (insL ns side.toNat many) → ∀ H' p, Same H H' → VwAt H' p (insL ns side.toNat many) st (insL ss side.toNat 0) → Q (.ref p) H')
def spvled (C : Addr) : Sp := fun vs H Q E => ∃ (v b : Addr) (ns ss ms : List Int) (st : Int), vs = [.ref v, .ref b] ∧ VwAt H v ns st ss ∧ vwOk ns ss ∧ H b = some (.tup (ms.map V.int)) ∧ ms.length ≤ 10 ∧ (¬ ms.take ns.length = ns → ∀ H', Same H H' → E (.ref C) none H') ∧ (ms.take ns.length = ns → ∀ H' p, Same H H' → VwAt H' p ms st (ss.take ns.length ++ rep0 (ms.length - ns.length) ++ ss.drop ns.length) → Q (.ref p) H')
def spvinner (C : Addr) : Sp := fun vs H Q E => ∃ (v : Addr) (ns ss : List Int) (st side : Int), vs = [.ref v, .int side] ∧ VwAt H v ns st ss ∧ vwOk ns ss ∧ (off ns side → E (.ref C) none H) ∧ (¬ off ns side → ∀ H' p, Same H H' → VwAt H' p (ns.eraseIdx side.toNat) st (insL (ss.eraseIdx side.toNat) (ns.length - 1) (ss.getD side.toNat 0)) → Q (.ref p) H')
theorem at_side {ss : List Int} {k : Nat} (h : k < ss.length) : atI (ss.map V.int) (k : Int) = some (.int (ss.getD k 0)) := at_int (Int.natCast_nonneg k) (by rw [Int.toNat_natCast]; exact get_some h)
theorem getD_memI {ns : List Int} {k : Nat} (h : k < ns.length) : ns.getD k 0 ∈ ns := by rw [List.getD_eq_getElem?_getD, List.getElem?_eq_getElem h]; exact List.getElem_mem h
theorem side_nat {ns : List Int} {side : Int} (h : ¬ off ns side) : ∃ k : Nat, side = k ∧ k < ns.length := by
  unfold off at h
  exact ⟨side.toNat, by omega, by omega⟩
def roomI (ns : List Int) : Int := 512 / prodI (ns.map one1)
def smN (n : Int) : Prop := 0 ≤ n ∧ n < 2305843009213693952
theorem fmod_in {n r : Int} (h : 0 < r) : 0 ≤ n.fmod r ∧ n.fmod r < r := by
  rw [Int.fmod_eq_emod_of_nonneg _ (by omega)]
  exact ⟨Int.emod_nonneg _ (by omega), Int.emod_lt_of_pos _ h⟩
theorem most_in {sz f g : Int} (z0 : 0 ≤ sz) (z1 : sz ≤ 512) (f0 : 0 ≤ f) (f1 : f ≤ 512) (g0 : 1 ≤ g) (g1 : g ≤ 4) : 0 ≤ (if (sz - 1 - f).fdiv g + 1 > 0 then (sz - 1 - f).fdiv g + 1 else 0) ∧ (if (sz - 1 - f).fdiv g + 1 > 0 then (sz - 1 - f).fdiv g + 1 else 0) ≤ 513 := by
  rw [Int.fdiv_eq_ediv_of_nonneg _ (by omega)]
  rcases (show g = 1 ∨ g = 2 ∨ g = 3 ∨ g = 4 by omega) with rfl | rfl | rfl | rfl <;> (split <;> omega)
theorem same_put {H H' : Hp} (s : Same H H') {l : Addr} {o : HO} (h : H l = none) : Same H (upd H' l o) := fun a x e => by
  have ne : a ≠ l := fun z => by rw [z, h] at e; cases e
  rw [upd_ne ne]; exact s _ _ e
theorem same_none {H H' : Hp} (s : Same H H') {l : Addr} (h : H' l = none) : H l = none := by
  cases e : H l with
  | none => rfl
  | some o => rw [s _ _ e] at h; cases h
theorem one1_pos {n : Int} (h : 0 ≤ n) : 1 ≤ one1 n := by unfold one1; split <;> omega
theorem one1_max {n : Int} (h : 0 ≤ n) : (if n > 1 then n else 1) = one1 n := by unfold one1; split <;> split <;> omega
theorem prod1_pos {ns : List Int} (h : ∀ n ∈ ns, 0 ≤ n) : 1 ≤ prodI (ns.map one1) := by
  induction ns with
  | nil => decide
  | cons n ns ih =>
    rw [List.map_cons, prod_cons]
    have a := one1_pos (h n List.mem_cons_self)
    have b := ih fun m hm => h m (List.mem_cons_of_mem _ hm)
    exact Int.le_trans (by decide) (Int.mul_le_mul a b (by decide) (by omega))
theorem room_snoc {ns : List Int} {n : Int} (h : ∀ m ∈ ns, 0 ≤ m) : roomI (ns ++ [n]) = roomI ns / one1 n := by
  unfold roomI
  rw [List.map_append]
  show 512 / prodI (ns.map one1 ++ [one1 n]) = _
  rw [prod_app, Int.mul_comm, div_div (by have := prod1_pos h; omega)]
theorem room_in {ns : List Int} (h : ∀ m ∈ ns, 0 ≤ m) : 0 ≤ roomI ns ∧ roomI ns ≤ 512 := by
  unfold roomI
  have := prod1_pos h
  exact ⟨Int.ediv_nonneg (by decide) (by omega), Int.ediv_le_self _ (by decide)⟩
inductive Dg where
  | turn (os : List Int)
  | flip (side : Int)
  | cut (side f m g : Int)
  | spread (side m : Int)
  | lead (ms : List Int)
  | inner (side : Int)
def DgAt (H : Hp) (p : Addr) : Dg → Prop
  | .turn os => ∃ b, H p = some (.tup [.str (Str.ofString "turn"), .ref b]) ∧ H b = some (.tup (os.map V.int)) ∧ os.length ≤ 7
  | .flip side => H p = some (.tup [.str (Str.ofString "flip"), .int side])
  | .cut side f m g => H p = some (.tup [.str (Str.ofString "cut"), .int side, .int f, .int m, .int g]) ∧ smI f ∧ smI g ∧ -100 < m ∧ m < 100000
  | .spread side m => H p = some (.tup [.str (Str.ofString "spread"), .int side, .int m]) ∧ -100 < m ∧ m < 1000000
  | .lead ms => ∃ b, H p = some (.tup [.str (Str.ofString "lead"), .ref b]) ∧ H b = some (.tup (ms.map V.int)) ∧ ms.length ≤ 10
  | .inner side => H p = some (.tup [.str (Str.ofString "inner"), .int side])
theorem DgAt.same {H H' : Hp} {p : Addr} (s : Same H H') : ∀ {d : Dg}, DgAt H p d → DgAt H' p d
  | .turn _, ⟨b, h1, h2, h3⟩ => ⟨b, s _ _ h1, s _ _ h2, h3⟩
  | .flip _, h => s _ _ h
  | .cut .., ⟨h, r⟩ => ⟨s _ _ h, r⟩
  | .spread .., ⟨h, r⟩ => ⟨s _ _ h, r⟩
  | .lead _, ⟨b, h1, h2, h3⟩ => ⟨b, s _ _ h1, s _ _ h2, h3⟩
  | .inner _, h => s _ _ h
theorem div_one {r d : Int} (h1 : 1 ≤ d) (h2 : d ≤ r) : 1 ≤ r / d := by
  have := Int.ediv_le_ediv (a := d) (b := r) (c := d) (by omega) h2
  rw [Int.ediv_self (by omega)] at this
  exact this
theorem at_last {ns : List Int} (h : 0 < ns.length) : ∃ z, atI (ns.map V.int) (-1) = some (.int z) := by
  unfold atI ixN
  rw [if_neg (by decide), if_pos (by rw [len_map]; omega), len_map]
  have e : (-1 + (ns.length : Int)).toNat = ns.length - 1 := by omega
  refine ⟨ns[ns.length - 1], ?_⟩
  rw [e]
  show (ns.map V.int)[ns.length - 1]? = _
  rw [List.getElem?_map, List.getElem?_eq_getElem (by omega)]; rfl
theorem cut_some (ns : List Int) (lo hi : Option Int) : ∃ ms : List Int, cutV (ns.map V.int) lo hi = ms.map V.int ∧ ms.length ≤ ns.length := by
  unfold cutV
  refine ⟨(ns.drop _).take _, by rw [← List.map_drop, ← List.map_take], ?_⟩
  rw [List.length_take, List.length_drop]; omega
noncomputable def fltD (ns : List Int) : Dg → Option Str
  | .turn os => open Classical in if turnOk ns.length os then none else some "side"
  | .flip side => open Classical in if off ns side then some "side" else none
  | .cut side f m g => open Classical in if off ns side then some "side" else if bad ns side f m g then some "beyond" else none
  | .spread side m => open Classical in if off1 ns side then some "side" else if m < 0 then some "beyond" else if bigI (insL ns side.toNat m) then some "large" else none
  | .lead ms => if ms.take ns.length = ns then none else some "unlike"
  | .inner side => open Classical in if off ns side then some "side" else none
def sdsD (ns : List Int) : Dg → List Int
  | .turn os => turnL ns os
  | .flip _ => ns
  | .cut side _ m _ => ns.set side.toNat m
  | .spread side m => insL ns side.toNat m
  | .lead ms => ms
  | .inner side => ns.eraseIdx side.toNat
def staD (ns ss : List Int) (st : Int) : Dg → Int
  | .flip side => st + (ns.getD side.toNat 0 - 1) * ss.getD side.toNat 0
  | .cut side f _ _ => st + f * ss.getD side.toNat 0
  | _ => st
def stsD (ns ss : List Int) : Dg → List Int
  | .turn os => turnL ss os ++ ss.drop ns.length
  | .flip side => ss.set side.toNat (-ss.getD side.toNat 0)
  | .cut side _ _ g => ss.set side.toNat (ss.getD side.toNat 0 * g)
  | .spread side _ => insL ss side.toNat 0
  | .lead ms => ss.take ns.length ++ rep0 (ms.length - ns.length) ++ ss.drop ns.length
  | .inner side => insL (ss.eraseIdx side.toNat) (ns.length - 1) (ss.getD side.toNat 0)
def clsD (C1 C2 C3 C4 : Addr) (w : Str) : Addr := if w = "side" then C1 else if w = "beyond" then C2 else if w = "large" then C3 else C4
theorem clsD1 (C1 C2 C3 C4 : Addr) : clsD C1 C2 C3 C4 "side" = C1 := by unfold clsD; rw [if_pos rfl]
theorem clsD2 (C1 C2 C3 C4 : Addr) : clsD C1 C2 C3 C4 "beyond" = C2 := by unfold clsD; rw [if_neg (by decide +kernel), if_pos rfl]
theorem clsD3 (C1 C2 C3 C4 : Addr) : clsD C1 C2 C3 C4 "large" = C3 := by unfold clsD; rw [if_neg (by decide +kernel), if_neg (by decide +kernel), if_pos rfl]
theorem clsD4 (C1 C2 C3 C4 : Addr) : clsD C1 C2 C3 C4 "unlike" = C4 := by unfold clsD; rw [if_neg (by decide +kernel), if_neg (by decide +kernel), if_neg (by decide +kernel)]
def spviewed (C1 C2 C3 C4 : Addr) : Sp := fun vs H Q E => ∃ (v p : Addr) (ns ss : List Int) (st : Int) (d : Dg), vs = [.ref v, .ref p] ∧ VwAt H v ns st ss ∧ vwOk ns ss ∧ DgAt H p d ∧ (∀ w, fltD ns d = some w → ∀ H', Same H H' → E (.ref (clsD C1 C2 C3 C4 w)) none H') ∧ (fltD ns d = none → ∀ H' r, Same H H' → VwAt H' r (sdsD ns d) (staD ns ss st d) (stsD ns ss d) → Q (.ref r) H')
def askR (H' : Hp) (r : Addr) (ns ss : List Int) (st : Int) (d : Dg) : Prop := ∃ f w, H' r = some (.tup [f, .str w]) ∧ ((fltD ns d = some w ∧ f = .non) ∨ (fltD ns d = none ∧ w = "" ∧ ∃ q, f = .ref q ∧ VwAt H' q (sdsD ns d) (staD ns ss st d) (stsD ns ss d)))
theorem flt_words {ns : List Int} {d : Dg} {w : Str} (h : fltD ns d = some w) : w = "side" ∨ w = "beyond" ∨ w = "large" ∨ w = "unlike" := by
  cases d with
  | turn os =>
    have h : (open Classical in if turnOk ns.length os then (none : Option Str) else some "side") = some w := h
    split at h <;> cases h
    exact .inl rfl
  | flip side =>
    have h : (open Classical in if off ns side then some (Str.ofString "side") else none) = some w := h
    split at h <;> cases h
    exact .inl rfl
  | inner side =>
    have h : (open Classical in if off ns side then some (Str.ofString "side") else none) = some w := h
    split at h <;> cases h
    exact .inl rfl
  | lead ms =>
    have h : (if ms.take ns.length = ns then (none : Option Str) else some "unlike") = some w := h
    split at h <;> cases h
    exact .inr (.inr (.inr rfl))
  | cut side f m g =>
    have h : (open Classical in if off ns side then some (Str.ofString "side") else if bad ns side f m g then some (Str.ofString "beyond") else none) = some w := h
    split at h
    · cases h; exact .inl rfl
    · split at h <;> cases h
      exact .inr (.inl rfl)
  | spread side m =>
    have h : (open Classical in if off1 ns side then some (Str.ofString "side") else if m < 0 then some (Str.ofString "beyond") else if bigI (insL ns side.toNat m) then some (Str.ofString "large") else none) = some w := h
    split at h
    · cases h; exact .inl rfl
    · split at h
      · cases h; exact .inr (.inl rfl)
      · split at h <;> cases h
        exact .inr (.inr (.inl rfl))
def behR (H' : Hp) (r : Addr) (ns : List Int) (d : Dg) : Prop := ∃ b w, H' r = some (.tup [.ref b, .str w]) ∧ (fltD ns d = some w ∨ (fltD ns d = none ∧ w = "" ∧ H' b = some (.tup ((sdsD ns d).map V.int))))
def spbehind : Sp := fun vs H Q _ => ∃ (a p : Addr) (ns : List Int) (d : Dg), vs = [.ref a, .ref p] ∧ H a = some (.tup (ns.map V.int)) ∧ sdOk ns ∧ ¬ bigI ns ∧ DgAt H p d ∧ ∀ H' r, Same H H' → behR H' r ns d → Q (.ref r) H'
theorem big_ins {ns : List Int} {k : Nat} {m : Int} (l6 : ns.length ≤ 6) (sd : sdOk ns) (nb : ¬ bigI ns) (m0 : 0 ≤ m) : bigI (insL ns k m) ↔ ns.length = 6 ∨ roomI ns < m := by
  have pp := prod1_pos fun n hn => (sd n hn).1
  have e : prodI ((insL ns k m).map one1) = one1 m * prodI (ns.map one1) := by
    unfold insL
    rw [List.map_append, List.map_append, List.map_take, List.map_drop, List.append_assoc]
    show prodI ((ns.map one1).take k ++ one1 m :: (ns.map one1).drop k) = _
    generalize ns.map one1 = l
    induction l generalizing k with
    | nil => rw [List.take_nil, List.drop_nil, List.nil_append, prod_cons]
    | cons y l ih =>
      cases k with
      | zero => rw [List.take_zero, List.drop_zero, List.nil_append, prod_cons]
      | succ k => rw [List.take_succ_cons, List.drop_succ_cons, List.cons_append, prod_cons, ih, prod_cons, Int.mul_left_comm]
  have le : (insL ns k m).length = ns.length + 1 := ins_len ns k m
  unfold bigI roomI at *
  rw [le, e]
  generalize prodI (ns.map one1) = P at *
  rw [Int.ediv_lt_iff_lt_mul (by omega)]
  by_cases z : m = 0
  · subst z
    show 6 < ns.length + 1 ∨ 512 < 1 * P ↔ ns.length = 6 ∨ 512 < 0 * P
    omega
  · have e1 : one1 m = m := by unfold one1; rw [if_neg z]
    rw [e1]
    omega
theorem ret_flt {H G : Hp} {Q : VK} {a : Addr} {ns : List Int} {d : Dg} {w : Str} (q : ∀ H' r, Same H H' → behR H' r ns d → Q (.ref r) H') (s : Same H G) (h : fltD ns d = some w) : ∀ r, G r = none → Q (.ref r) (upd G r (.tup [.ref a, .str w])) := fun r hr => q _ r (s.trans (same_new hr _)) ⟨a, w, upd_same, .inl h⟩
theorem ret_ok {H G : Hp} {Q : VK} {b : Addr} {ns : List Int} {d : Dg} (q : ∀ H' r, Same H H' → behR H' r ns d → Q (.ref r) H') (s : Same H G) (h : fltD ns d = none) (hb : G b = some (.tup ((sdsD ns d).map V.int))) : ∀ r, G r = none → Q (.ref r) (upd G r (.tup [.ref b, .str (Str.ofString "")])) := fun r hr => q _ r (s.trans (same_new hr _)) ⟨b, _, upd_same, .inr ⟨h, rfl, same_new hr _ _ _ hb⟩⟩
theorem flt_turn {ns os : List Int} (h : fltD ns (.turn os) = none) : turnOk ns.length os := by
  have h : (open Classical in if turnOk ns.length os then (none : Option Str) else some "side") = none := h
  split at h
  · assumption
  · cases h
theorem flt_lead {ns ms : List Int} (h : fltD ns (.lead ms) = none) : ms.take ns.length = ns := by
  have h : (if ms.take ns.length = ns then (none : Option Str) else some "unlike") = none := h
  split at h
  · assumption
  · cases h
theorem flt_flip {ns : List Int} {side : Int} (h : fltD ns (.flip side) = none) : ¬ off ns side := by
  have h : (open Classical in if off ns side then some (Str.ofString "side") else none) = none := h
  split at h
  · cases h
  · assumption
theorem flt_inner {ns : List Int} {side : Int} (h : fltD ns (.inner side) = none) : ¬ off ns side := by
  have h : (open Classical in if off ns side then some (Str.ofString "side") else none) = none := h
  split at h
  · cases h
  · assumption
theorem flt_cut {ns : List Int} {side f m g : Int} (h : fltD ns (.cut side f m g) = none) : ¬ off ns side ∧ ¬ bad ns side f m g := by
  have h : (open Classical in if off ns side then some (Str.ofString "side") else if bad ns side f m g then some (Str.ofString "beyond") else none) = none := h
  split at h
  · cases h
  · split at h
    · cases h
    · exact ⟨by assumption, by assumption⟩
theorem flt_spread {ns : List Int} {side m : Int} (h : fltD ns (.spread side m) = none) : ¬ off1 ns side ∧ ¬ m < 0 ∧ ¬ bigI (insL ns side.toNat m) := by
  have h : (open Classical in if off1 ns side then some (Str.ofString "side") else if m < 0 then some (Str.ofString "beyond") else if bigI (insL ns side.toNat m) then some (Str.ofString "large") else none) = none := h
  split at h
  · cases h
  · split at h
    · cases h
    · split at h
      · cases h
      · exact ⟨by assumption, by assumption, by assumption⟩
theorem fit_room {ns : List Int} (h : fit ns) : 1 ≤ roomI ns := div_one h.2.2.1 h.2.2.2
theorem fit_sdk {ns : List Int} (h : fit ns) : sdOk ns := fun n hn => by have := h.1 n hn; exact ⟨this.1, by omega⟩
theorem fit_nbig {ns : List Int} (h : fit ns) : ¬ bigI ns := fun b => b.elim (fun z => by have := h.2.1; omega) (fun z => by have := h.2.2.2; omega)
theorem flt_ne {ns : List Int} {d : Dg} {w : Str} (h : fltD ns d = some w) : ¬ w = Str.ofString "" := by
  rcases flt_words h with rfl | rfl | rfl | rfl <;> decide +kernel
theorem sds_len {H : Hp} {p : Addr} {ns : List Int} {d : Dg} (h : DgAt H p d) (l : ns.length ≤ 6) : (sdsD ns d).length ≤ 20 := by
  cases d with
  | turn os => obtain ⟨_, _, _, z⟩ := h; show (turnL ns os).length ≤ 20; unfold turnL; rw [List.length_map]; omega
  | flip _ => show ns.length ≤ 20; omega
  | cut side _ m _ => show (ns.set _ _).length ≤ 20; rw [List.length_set]; omega
  | spread side m => show (insL ns _ _).length ≤ 20; rw [ins_len]; omega
  | lead ms => obtain ⟨_, _, _, z⟩ := h; show ms.length ≤ 20; omega
  | inner side => show (ns.eraseIdx _).length ≤ 20; rw [List.length_eraseIdx]; split <;> omega
def plH (ns ms : List Int) : Int := dotI ms (stL ns ns.length).reverse
theorem st_snoc (ns : List Int) (n : Int) : (stL (ns ++ [n]) (ns ++ [n]).length).reverse = ((stL ns ns.length).reverse.map fun s => s * n) ++ [1] := by
  unfold stL
  rw [List.length_append, List.length_singleton, List.range_succ_eq_map, List.map_cons, List.reverse_cons, List.map_map, ← List.map_reverse, ← List.map_reverse, List.map_map]
  congr 1
  refine List.map_congr_left fun j _ => ?_
  show prodI ((ns ++ [n]).reverse.take (j + 1)) = prodI (ns.reverse.take j) * n
  rw [List.reverse_append]
  show prodI (n :: ns.reverse.take j) = _
  rw [prod_cons, Int.mul_comm]
theorem dot_scale (n : Int) : ∀ (ms ss : List Int), dotI ms (ss.map fun s => s * n) = dotI ms ss * n
  | [], _ => by simp [dotI]
  | _ :: _, [] => by simp [dotI]
  | m :: ms, s :: ss => by
    show m * (s * n) + dotI ms (ss.map fun s => s * n) = (m * s + dotI ms ss) * n
    rw [dot_scale n ms ss, Int.add_mul, Int.mul_assoc]
theorem dot_snoc1 (m : Int) : ∀ {ms ss : List Int}, ms.length = ss.length → dotI (ms ++ [m]) (ss ++ [1]) = dotI ms ss + m
  | [], [], _ => by simp [dotI]
  | [], _ :: _, h => by simp at h
  | _ :: _, [], h => by simp at h
  | a :: ms, s :: ss, h => by
    show a * s + dotI (ms ++ [m]) (ss ++ [1]) = a * s + dotI ms ss + m
    rw [dot_snoc1 m (by simpa using h), Int.add_assoc]
theorem plH_snoc {ns ms : List Int} (n m : Int) (h : ms.length = ns.length) : plH (ns ++ [n]) (ms ++ [m]) = plH ns ms * n + m := by
  unfold plH
  rw [st_snoc, dot_snoc1 m (by simp [stL, h]), dot_scale]
theorem plH_take {ns ms : List Int} {i : Nat} {n m : Int} (hl : ms.length = ns.length) (hn : ns[i]? = some n) (hm : ms[i]? = some m) : plH (ns.take (i + 1)) (ms.take (i + 1)) = plH (ns.take i) (ms.take i) * n + m := by
  rw [List.take_add_one, List.take_add_one, hn, hm]
  exact plH_snoc n m (by rw [List.length_take, List.length_take, hl])
def RwI (H : Hp) (a : Addr) (ns : List Int) : Prop := H a = some (.lst (ns.map V.int)) ∨ H a = some (.tup (ns.map V.int))
theorem RwI.same {H H' : Hp} {a : Addr} {ns : List Int} (h : RwI H a ns) (s : Same H H') : RwI H' a ns := h.imp (s _ _) (s _ _)
def TbAt (H : Hp) (t : Addr) (ns cs : List Int) : Prop := ∃ a c, H t = some (.tup [.ref a, .ref c]) ∧ H a = some (.tup (ns.map V.int)) ∧ H c = some (.tup (cs.map V.int))
theorem TbAt.same {H H' : Hp} {t : Addr} {ns cs : List Int} (h : TbAt H t ns cs) (s : Same H H') : TbAt H' t ns cs := let ⟨a, c, h1, h2, h3⟩ := h; ⟨a, c, s _ _ h1, s _ _ h2, s _ _ h3⟩
def TpsAt (H : Hp) (ps : List Addr) (L : List (List Int)) : Prop := ps.length = L.length ∧ ∀ (i : Nat) t, L[i]? = some t → ∃ p, ps[i]? = some p ∧ H p = some (.tup (t.map V.int))
theorem TpsAt.mono {H H' : Hp} {ps : List Addr} {L : List (List Int)} (h : TpsAt H ps L) (s : ∀ a xs, H a = some (.tup xs) → H' a = some (.tup xs)) : TpsAt H' ps L := ⟨h.1, fun i t e => let ⟨p, e1, g⟩ := h.2 i t e; ⟨p, e1, s _ _ g⟩⟩
theorem TpsAt.snoc {H : Hp} {ps : List Addr} {L : List (List Int)} {t : List Int} {q : Addr} (h : TpsAt H ps L) (g : H q = some (.tup (t.map V.int))) : TpsAt H (ps ++ [q]) (L ++ [t]) := by
  refine ⟨by simp [h.1], fun i u e => ?_⟩
  rcases Nat.lt_trichotomy i L.length with hi | hi | hi
  · rw [List.getElem?_append_left hi] at e
    obtain ⟨p, e1, l⟩ := h.2 i u e
    exact ⟨p, by rw [List.getElem?_append_left (by rw [h.1]; exact hi)]; exact e1, l⟩
  · subst hi
    rw [List.getElem?_append_right (Nat.le_refl _), Nat.sub_self] at e
    cases (Option.some.inj e)
    exact ⟨q, by rw [List.getElem?_append_right (by rw [h.1]; exact Nat.le_refl _), h.1, Nat.sub_self]; rfl, g⟩
  · rw [List.getElem?_eq_none (by simp; omega)] at e; cases e
def SameP (T : Addr) (H H' : Hp) : Prop := ∀ a o, a ≠ T → H a = some o → H' a = some o
theorem prod_one_le : ∀ {ns : List Int}, (∀ n ∈ ns, 0 ≤ n) → 0 ≤ prodI ns ∧ prodI ns ≤ prodI (ns.map one1)
  | [], _ => by decide
  | n :: ns, h => by
    obtain ⟨i0, i1⟩ := prod_one_le (ns := ns) fun m hm => h m (List.mem_cons_of_mem _ hm)
    have n0 := h n List.mem_cons_self
    rw [List.map_cons, prod_cons, prod_cons]
    have o : n ≤ one1 n ∧ 0 ≤ one1 n := by unfold one1; split <;> omega
    exact ⟨Int.mul_nonneg n0 i0, Int.mul_le_mul o.1 i1 i0 o.2⟩
def SmT (H H' : Hp) : Prop := ∀ a o, (∀ ps, o ≠ .tbl ps) → H a = some o → H' a = some o
theorem SmT.refl (H : Hp) : SmT H H := fun _ _ _ e => e
theorem SmT.trans {H H1 H2 : Hp} (h : SmT H H1) (g : SmT H1 H2) : SmT H H2 := fun a o n e => g a o n (h a o n e)
theorem SmT.of {H H' : Hp} (h : Same H H') : SmT H H' := fun a o _ e => h a o e
theorem SmT.tup {H H' : Hp} (h : SmT H H') {a : Addr} {xs : List V} (e : H a = some (.tup xs)) : H' a = some (.tup xs) := h a _ (fun _ z => by cases z) e
theorem SmT.lst {H H' : Hp} (h : SmT H H') {a : Addr} {xs : List V} (e : H a = some (.lst xs)) : H' a = some (.lst xs) := h a _ (fun _ z => by cases z) e
theorem SmT.seq {K : PySem.W.Frag} {H H' : Hp} {a : Addr} {xs : List V} (e : SmT H H') (h : SqL K H a xs) : SqL K H' a xs := by
  rcases h with (h | ⟨o, h⟩) | h
  · exact .inl (.inl (e.lst h))
  · exact .inl (.inr ⟨o, e _ _ (fun _ z => by cases z) h⟩)
  · exact .inr h
theorem SmT.tb {H H' : Hp} (h : SmT H H') {t : Addr} {ns cs : List Int} (e : TbAt H t ns cs) : TbAt H' t ns cs := let ⟨a, c, h1, h2, h3⟩ := e; ⟨a, c, h.tup h1, h.tup h2, h.tup h3⟩
theorem SmT.ofP {H H' : Hp} {T : Addr} {pos : Pos} {qual : Str} (t : TabOk H T pos qual) (h : SameP T H H') : SmT H H' := fun a o n e => h a o (fun z => by
  obtain ⟨ps, h1, _⟩ := t
  rw [z, h1] at e
  exact n ps (Option.some.inj e).symm) e
theorem TabOk.other {H H' : Hp} {T T2 : Addr} {pos pos2 : Pos} {qual qual2 : Str} (ne : T2 ≠ T) (t : TabOk H T pos qual) (t2 : TabOk H T2 pos2 qual2) (h : SameP T H H') : TabOk H' T2 pos2 qual2 := by
  obtain ⟨ps, h1, h2, h3⟩ := t2
  refine ⟨ps, h _ _ ne h1, h2, h3.imp id fun ⟨c', e, g⟩ => ⟨c', e, (SmT.ofP t h) _ _ (fun _ z => by cases z) g⟩⟩
theorem good_erase {ns ms : List Int} (k : Nat) (g : good ns ms) : good (ns.eraseIdx k) (ms.eraseIdx k) := by
  obtain ⟨l, g⟩ := g
  refine ⟨by rw [List.length_eraseIdx, List.length_eraseIdx, l], fun i m n em en => ?_⟩
  rw [List.getElem?_eraseIdx] at em en
  split at em
  · rename_i c; rw [if_pos c] at en; exact g i m n em en
  · rename_i c; rw [if_neg c] at en; exact g (i + 1) m n em en
theorem good_put {ns ms at_ : List Int} {k : Nat} {y w : Int} (g : good ns at_) (l : ms.length = ns.length) (e : ∀ j, j ≠ k → ms[j]? = ns[j]?) (hw : ms[k]? = some w) (h0 : 0 ≤ y) (h1 : y < w) : good ms (at_.set k y) := by
  refine ⟨by rw [List.length_set, l]; exact g.1, fun i m n em en => ?_⟩
  by_cases c : i = k
  · subst c
    have il := (List.getElem?_eq_some_iff.mp em).1
    rw [List.length_set] at il
    rw [List.getElem?_set_self il] at em
    rw [hw] at en
    cases em; cases en; exact ⟨h0, h1⟩
  · rw [List.getElem?_set_ne (fun z => c z.symm)] at em
    rw [e i c] at en
    exact g.2 i m n em en
theorem list_of {cs : List Int} {n : Nat} (h : cs.length = n) : (List.range n).map (fun i => cs.getD i 0) = cs := by
  subst h
  apply List.ext_getElem?
  intro k
  by_cases c : k < cs.length
  · rw [List.getElem?_map, List.getElem?_range c]
    exact (get_some c).symm
  · rw [List.getElem?_eq_none (by simp; omega), List.getElem?_eq_none (by omega)]
theorem ins_get {A : List Int} {k : Nat} {y : Int} (hk : k ≤ A.length) (i : Nat) : (insL A k y)[i]? = if i < k then A[i]? else if i = k then some y else A[i - 1]? := by
  unfold insL
  have tl : (A.take k).length = k := by rw [List.length_take]; omega
  split
  · rename_i h
    rw [List.append_assoc, List.getElem?_append_left (by omega), List.getElem?_take, if_pos h]
  · rename_i h
    rw [List.append_assoc, List.getElem?_append_right (by omega), tl]
    split
    · rename_i e; subst e; rw [Nat.sub_self]; rfl
    · rename_i e
      obtain ⟨m, hm⟩ : ∃ m, i - k = m + 1 := ⟨i - k - 1, by omega⟩
      rw [hm]
      show (A.drop k)[m]? = _
      rw [List.getElem?_drop]; congr 1; omega
theorem good_ins {ns A : List Int} {k : Nat} {y : Int} (hk : k < ns.length) (g : good (ns.eraseIdx k) A) (h0 : 0 ≤ y) (h1 : y < ns.getD k 0) : good ns (insL A k y) := by
  obtain ⟨l, g⟩ := g
  have el : (ns.eraseIdx k).length = ns.length - 1 := by rw [List.length_eraseIdx, if_pos hk]
  have kl : k ≤ A.length := by omega
  refine ⟨by rw [ins_len]; omega, fun i m n em en => ?_⟩
  rw [ins_get kl] at em
  split at em
  · rename_i c
    exact g i m n em (by rw [List.getElem?_eraseIdx, if_pos c]; exact en)
  · split at em
    · rename_i c e; subst e
      cases em
      rw [get_some hk] at en; cases en
      exact ⟨h0, h1⟩
    · rename_i c e
      refine g (i - 1) m n em ?_
      rw [List.getElem?_eraseIdx, if_neg (by omega), show i - 1 + 1 = i by omega]; exact en
theorem erase_one_le : ∀ {ns : List Int} {k : Nat}, (∀ n ∈ ns, 0 ≤ n) → prodI ((ns.eraseIdx k).map one1) ≤ prodI (ns.map one1)
  | [], _, _ => by simp
  | n :: ns, 0, h => by
    have n0 := h n List.mem_cons_self
    have p := prod_one_le fun m hm => h m (List.mem_cons_of_mem _ hm)
    show prodI (ns.map one1) ≤ _
    rw [List.map_cons, prod_cons]
    have : 1 * prodI (ns.map one1) ≤ one1 n * prodI (ns.map one1) := Int.mul_le_mul_of_nonneg_right (by unfold one1; split <;> omega) (by omega)
    omega
  | n :: ns, k + 1, h => by
    have n0 := h n List.mem_cons_self
    have ih := erase_one_le (ns := ns) (k := k) (fun m hm => h m (List.mem_cons_of_mem _ hm))
    show prodI ((n :: ns.eraseIdx k).map one1) ≤ _
    rw [List.map_cons, List.map_cons, prod_cons, prod_cons]
    exact Int.mul_le_mul_of_nonneg_left ih (by unfold one1; split <;> omega)
theorem prod_perm {a b : List Int} (h : a.Perm b) : prodI a = prodI b := by
  induction h with
  | nil => rfl
  | cons x _ ih => rw [prod_cons, prod_cons, ih]
  | swap x y l => rw [prod_cons, prod_cons, prod_cons, prod_cons, ← Int.mul_assoc, ← Int.mul_assoc, Int.mul_comm x y]
  | trans _ _ h1 h2 => rw [h1, h2]
theorem turn_perm {ns os : List Int} (t : turnOk ns.length os) : (turnL ns os).Perm ns := by
  have e : (upL ns.length).map (fun k : Int => ns.getD k.toNat 0) = ns := by
    unfold upL; rw [List.map_map]; exact list_of rfl
  have := t.map (fun k : Int => ns.getD k.toNat 0)
  rw [e] at this; exact this
theorem dot_cons (a b : Int) (as bs : List Int) : dotI (a :: as) (b :: bs) = a * b + dotI as bs := by
  unfold dotI; rw [List.zipWith_cons_cons, List.sum_cons]
theorem dot_nilL (bs : List Int) : dotI [] bs = 0 := by unfold dotI; rw [List.zipWith_nil_left]; rfl
theorem dot_nilR (as : List Int) : dotI as [] = 0 := by unfold dotI; rw [List.zipWith_nil_right]; rfl
theorem dot_set1 : ∀ {A S : List Int} {k : Nat} {y : Int}, k < A.length → k < S.length → dotI (A.set k y) S = dotI A S + (y - A.getD k 0) * S.getD k 0
  | [], _, _, _, h, _ => absurd h (Nat.not_lt_zero _)
  | _ :: _, [], _, _, _, h => absurd h (Nat.not_lt_zero _)
  | a :: A, s :: S, 0, y, _, _ => by rw [List.set_cons_zero, dot_cons, dot_cons, List.getD_cons_zero, List.getD_cons_zero]; grind
  | a :: A, s :: S, k + 1, y, h1, h2 => by rw [List.set_cons_succ, dot_cons, dot_cons, dot_set1 (Nat.lt_of_succ_lt_succ h1) (Nat.lt_of_succ_lt_succ h2), List.getD_cons_succ, List.getD_cons_succ]; grind
theorem dot_comm : ∀ (A S : List Int), dotI A S = dotI S A
  | [], S => by rw [dot_nilL, dot_nilR]
  | a :: A, [] => by rw [dot_nilL, dot_nilR]
  | a :: A, s :: S => by rw [dot_cons, dot_cons, dot_comm A S, Int.mul_comm]
theorem dot_set2 {A S : List Int} {k : Nat} {t : Int} (h1 : k < A.length) (h2 : k < S.length) : dotI A (S.set k t) = dotI A S + A.getD k 0 * (t - S.getD k 0) := by
  rw [dot_comm, dot_set1 h2 h1, dot_comm, Int.mul_comm]
theorem dot_ins : ∀ {A S : List Int} {k : Nat} {t : Int}, A.length = S.length + 1 → k ≤ S.length → dotI A (insL S k t) = dotI (A.eraseIdx k) S + A.getD k 0 * t
  | [], _, _, _, h, _ => by simp at h
  | a :: A, S, 0, t, h, _ => by
    show dotI (a :: A) (t :: S) = _
    rw [dot_cons, List.eraseIdx_cons_zero, List.getD_cons_zero, Int.add_comm]
  | a :: A, [], k + 1, t, h, h2 => by simp at h2
  | a :: A, s :: S, k + 1, t, h, h2 => by
    show dotI (a :: A) (s :: insL S k t) = _
    rw [dot_cons, List.eraseIdx_cons_succ, dot_cons, List.getD_cons_succ, dot_ins (by simpa using h) (by simpa using h2), Int.add_assoc]
theorem ins_back : ∀ {A : List Int} {k : Nat}, k < A.length → insL (A.eraseIdx k) k (A.getD k 0) = A
  | [], _, h => absurd h (Nat.not_lt_zero _)
  | a :: A, 0, _ => rfl
  | a :: A, k + 1, h => by
    show a :: insL (A.eraseIdx k) k (A.getD k 0) = a :: A
    rw [ins_back (Nat.lt_of_succ_lt_succ h)]
theorem ins_era {A : List Int} {k : Nat} {y : Int} (h : k ≤ A.length) : (insL A k y).eraseIdx k = A := by
  unfold insL
  apply List.ext_getElem?
  intro i
  grind
theorem ins_getD {A : List Int} {k : Nat} {y : Int} (h : k ≤ A.length) : (insL A k y).getD k 0 = y := by
  unfold insL; grind
theorem dot_app : ∀ {A B S T : List Int}, A.length = S.length → dotI (A ++ B) (S ++ T) = dotI A S + dotI B T
  | [], B, [], T, _ => by rw [List.nil_append, List.nil_append, dot_nilL]; omega
  | a :: A, B, s :: S, T, h => by rw [List.cons_append, List.cons_append, dot_cons, dot_cons, dot_app (by simpa using h), Int.add_assoc]
  | [], B, s :: S, T, h => by simp at h
  | a :: A, B, [], T, h => by simp at h
theorem dot_zero : ∀ (A : List Int) (n : Nat), dotI A (rep0 n) = 0
  | [], n => dot_nilL _
  | a :: A, 0 => dot_nilR _
  | a :: A, n + 1 => by show dotI (a :: A) (0 :: rep0 n) = 0; rw [dot_cons, dot_zero A n, Int.mul_zero]; rfl
theorem dot_lead {A S : List Int} {n m : Nat} (h1 : A.length = S.length + m) (h2 : n ≤ S.length) : dotI A (S.take n ++ rep0 m ++ S.drop n) = dotI (A.take n ++ A.drop (n + m)) S := by
  have e : A = A.take n ++ ((A.drop n).take m) ++ A.drop (n + m) := by
    apply List.ext_getElem?; intro i; grind
  have e2 : S = S.take n ++ S.drop n := (List.take_append_drop n S).symm
  conv => lhs; rw [e]
  conv => rhs; rw [e2]
  rw [dot_app (by simp [rep0]; omega), dot_app (by simp; omega), dot_app (by simp; omega), dot_zero]; omega
def putL : List Int → List Int → List Int → List Int
  | out, o :: os, a :: as => putL (out.set o.toNat a) os as
  | out, _, _ => out
theorem put_len : ∀ (out os as : List Int), (putL out os as).length = out.length
  | out, o :: os, a :: as => by unfold putL; rw [put_len, List.length_set]
  | out, [], as => by unfold putL; rfl
  | out, o :: os, [] => by unfold putL; rfl
theorem dot_put {S : List Int} : ∀ {os out as : List Int}, os.Nodup → as.length = os.length → out.length ≤ S.length → (∀ o ∈ os, 0 ≤ o ∧ o < out.length ∧ out.getD o.toNat 0 = 0) → dotI (putL out os as) S = dotI out S + dotI as (turnL S os)
  | [], out, as, _, h, _, _ => by
    cases as with
    | nil => unfold putL; rw [dot_nilL]; omega
    | cons => simp at h
  | o :: os, out, [], _, h, _, _ => by simp at h
  | o :: os, out, a :: as, nd, h, hl, hz => by
    have z := hz o List.mem_cons_self
    have nd2 := List.nodup_cons.mp nd
    unfold putL
    rw [dot_put nd2.2 (by simpa using h) (by rw [List.length_set]; exact hl) (fun p hp => by
      have y := hz p (List.mem_cons_of_mem _ hp)
      have ne : o.toNat ≠ p.toNat := fun w => nd2.1 (by have : o = p := by omega
                                                        rw [this]; exact hp)
      refine ⟨y.1, by rw [List.length_set]; exact y.2.1, ?_⟩
      rw [List.getD_eq_getElem?_getD, List.getElem?_set_ne ne, ← List.getD_eq_getElem?_getD]; exact y.2.2), dot_set1 (by omega) (by omega), z.2.2]
    show _ = dotI out S + dotI (a :: as) (S.getD o.toNat 0 :: turnL S os)
    rw [dot_cons]; grind
theorem put_get : ∀ {os out as : List Int} {i : Nat} {m : Int}, (∀ o ∈ os, 0 ≤ o) → (putL out os as)[i]? = some m → (out[i]? = some m ∧ ((i : Int) ∉ os ∨ as.length < os.length)) ∨ ∃ j : Nat, os[j]? = some (i : Int) ∧ as[j]? = some m
  | [], out, as, i, m, _, h => by unfold putL at h; exact .inl ⟨h, .inl (by simp)⟩
  | o :: os, out, [], i, m, _, h => by unfold putL at h; exact .inl ⟨h, .inr (by simp)⟩
  | o :: os, out, a :: as, i, m, hz, h => by
    unfold putL at h
    have z := hz o List.mem_cons_self
    rcases put_get (fun p hp => hz p (List.mem_cons_of_mem _ hp)) h with ⟨h1, h2⟩ | ⟨j, h1, h2⟩
    · by_cases c : o.toNat = i
      · refine .inr ⟨0, ?_, ?_⟩
        · show some o = _; congr 1; omega
        · subst c
          have il : o.toNat < out.length := by
            have := (List.getElem?_eq_some_iff.mp h1).1
            rwa [List.length_set] at this
          rw [List.getElem?_set_self il] at h1
          exact h1
      · rw [List.getElem?_set_ne c] at h1
        refine .inl ⟨h1, h2.imp (fun h2 w => ?_) (fun h2 => by simpa using h2)⟩
        rcases List.mem_cons.mp w with w | w
        · omega
        · exact h2 w
    · exact .inr ⟨j + 1, h1, h2⟩
def backD (ns bs at_ : List Int) : Dg → List Int
  | .turn os => putL (rep0 ns.length) os (at_.take bs.length) ++ at_.drop bs.length
  | .lead _ => at_.take ns.length ++ at_.drop bs.length
  | .spread side _ => at_.eraseIdx side.toNat
  | .inner side => insL (at_.eraseIdx bs.length) side.toNat (at_.getD bs.length 0)
  | .flip side => at_.set side.toNat (ns.getD side.toNat 0 - 1 - at_.getD side.toNat 0)
  | .cut side f _ g => at_.set side.toNat (f + at_.getD side.toNat 0 * g)
def lensD (ns L : List Int) : Dg → List Int
  | .inner side => ns.getD side.toNat 0 :: L
  | _ => L
theorem good_at {N A : List Int} (g : good N A) {k : Nat} (h : k < N.length) : 0 ≤ A.getD k 0 ∧ A.getD k 0 < N.getD k 0 :=
  g.2 k _ _ (get_some (by rw [g.1]; exact h)) (get_some h)
theorem getD_app {ns L : List Int} {k : Nat} (h : k < ns.length) : (ns ++ L).getD k 0 = ns.getD k 0 := by
  rw [List.getD_eq_getElem?_getD, List.getElem?_append_left h, List.getD_eq_getElem?_getD]
theorem back_flip {ns ss L A : List Int} {st : Int} {k : Nat} (kl : k < ns.length) (hl : ss.length = ns.length + L.length) (g : good (ns ++ L) A) : good (ns ++ L) (A.set k (ns.getD k 0 - 1 - A.getD k 0)) ∧ st + (ns.getD k 0 - 1) * ss.getD k 0 + dotI A (ss.set k (-ss.getD k 0)) = st + dotI (A.set k (ns.getD k 0 - 1 - A.getD k 0)) ss := by
  have gk := good_at g (k := k) (by rw [List.length_append]; omega)
  have al := g.1
  rw [List.length_append] at al
  rw [getD_app kl] at gk
  refine ⟨good_put g rfl (fun _ _ => rfl) (by rw [List.getElem?_append_left kl]; exact get_some kl) (by omega) (by omega), ?_⟩
  rw [dot_set1 (by omega) (by omega), dot_set2 (by omega) (by omega)]
  grind
theorem cut_in {f g m a n : Int} (f0 : 0 ≤ f) (g1 : 1 ≤ g) (h : f + (m - 1) * g < n) (a0 : 0 ≤ a) (a1 : a < m) : 0 ≤ f + a * g ∧ f + a * g < n := by
  have h1 := Int.mul_nonneg a0 (show 0 ≤ g by omega)
  have h2 := Int.mul_le_mul_of_nonneg_right (show a ≤ m - 1 by omega) (show 0 ≤ g by omega)
  omega
theorem back_cut {ns ss L A : List Int} {st f m t : Int} {k : Nat} (kl : k < ns.length) (nb : ¬ bad ns (k : Int) f m t) (hl : ss.length = ns.length + L.length) (g : good (ns.set k m ++ L) A) : good (ns ++ L) (A.set k (f + A.getD k 0 * t)) ∧ st + f * ss.getD k 0 + dotI A (ss.set k (ss.getD k 0 * t)) = st + dotI (A.set k (f + A.getD k 0 * t)) ss := by
  have gk := good_at g (k := k) (by rw [List.length_append, List.length_set]; omega)
  have al := g.1
  rw [List.length_append, List.length_set] at al
  rw [getD_app (by rw [List.length_set]; exact kl)] at gk
  have e : (ns.set k m).getD k 0 = m := by rw [List.getD_eq_getElem?_getD, List.getElem?_set_self kl]; rfl
  rw [e] at gk
  unfold bad at nb
  rw [Int.toNat_natCast] at nb
  have ci := cut_in (f := f) (g := t) (m := m) (a := A.getD k 0) (n := ns.getD k 0) (by omega) (by omega) (by omega) gk.1 gk.2
  refine ⟨good_put g (by rw [List.length_append, List.length_append, List.length_set]) (fun j hj => ?_) (by rw [List.getElem?_append_left kl]; exact get_some kl) ci.1 ci.2, ?_⟩
  · rw [List.getElem?_append, List.getElem?_append, List.length_set, List.getElem?_set_ne (fun z => hj z.symm)]
  · rw [dot_set1 (by omega) (by omega), dot_set2 (by omega) (by omega)]
    grind
theorem ins_app {ns L : List Int} {k : Nat} {m : Int} (h : k ≤ ns.length) : insL ns k m ++ L = insL (ns ++ L) k m := by
  unfold insL
  rw [List.take_append_of_le_length h, List.drop_append_of_le_length h]
  simp
theorem back_spread {ns ss L A : List Int} {st m : Int} {k : Nat} (kl : k ≤ ns.length) (hl : ss.length = ns.length + L.length) (g : good (insL ns k m ++ L) A) : good (ns ++ L) (A.eraseIdx k) ∧ st + dotI A (insL ss k 0) = st + dotI (A.eraseIdx k) ss := by
  rw [ins_app kl] at g
  have al := g.1
  rw [ins_len, List.length_append] at al
  have g2 := good_erase k g
  rw [ins_era (by rw [List.length_append]; omega)] at g2
  refine ⟨g2, ?_⟩
  rw [dot_ins (by omega) (by omega)]
  omega
theorem erase_app {ns L : List Int} {k : Nat} (h : k < ns.length) : (ns ++ L).eraseIdx k = ns.eraseIdx k ++ L := List.eraseIdx_append_of_lt_length h _
theorem back_inner {ns ss L A : List Int} {st : Int} {k : Nat} (kl : k < ns.length) (hl : ss.length = ns.length + L.length) (g : good (ns.eraseIdx k ++ ns.getD k 0 :: L) A) : good (ns ++ L) (insL (A.eraseIdx (ns.eraseIdx k).length) k (A.getD (ns.eraseIdx k).length 0)) ∧ st + dotI A (insL (ss.eraseIdx k) (ns.length - 1) (ss.getD k 0)) = st + dotI (insL (A.eraseIdx (ns.eraseIdx k).length) k (A.getD (ns.eraseIdx k).length 0)) ss := by
  have el : (ns.eraseIdx k).length = ns.length - 1 := by rw [List.length_eraseIdx, if_pos kl]
  have al := g.1
  rw [List.length_append, List.length_cons] at al
  have gk := good_at g (k := (ns.eraseIdx k).length) (by rw [List.length_append, List.length_cons]; omega)
  have ge := good_erase (ns.eraseIdx k).length g
  have e1 : (ns.eraseIdx k ++ ns.getD k 0 :: L).eraseIdx (ns.eraseIdx k).length = (ns ++ L).eraseIdx k := by
    rw [erase_app kl, List.eraseIdx_append_of_length_le (Nat.le_refl _), Nat.sub_self, List.eraseIdx_cons_zero]
  have e2 : (ns.eraseIdx k ++ ns.getD k 0 :: L).getD (ns.eraseIdx k).length 0 = ns.getD k 0 := by
    rw [List.getD_eq_getElem?_getD, List.getElem?_append_right (Nat.le_refl _), Nat.sub_self]; rfl
  rw [e1] at ge
  rw [e2] at gk
  refine ⟨good_ins (by rw [List.length_append]; omega) ge gk.1 (by rw [getD_app kl]; exact gk.2), ?_⟩
  have sl : (ss.eraseIdx k).length = ss.length - 1 := by rw [List.length_eraseIdx, if_pos (by omega)]
  have al2 : (A.eraseIdx (ns.eraseIdx k).length).length = A.length - 1 := by rw [List.length_eraseIdx, if_pos (by omega)]
  conv => rhs; rw [← ins_back (A := ss) (k := k) (by omega)]
  rw [dot_ins (by omega) (by omega), dot_ins (by rw [ins_len]; omega) (by omega), ins_era (by omega), ins_getD (by omega), el]
theorem back_lead {ns ss L ms A : List Int} {st : Int} (e : ms.take ns.length = ns) (hl : ss.length = ns.length + L.length) (g : good (ms ++ L) A) : good (ns ++ L) (A.take ns.length ++ A.drop ms.length) ∧ st + dotI A (ss.take ns.length ++ rep0 (ms.length - ns.length) ++ ss.drop ns.length) = st + dotI (A.take ns.length ++ A.drop ms.length) ss := by
  have nl : ns.length ≤ ms.length := by have := congrArg List.length e; rw [List.length_take] at this; omega
  have al := g.1
  rw [List.length_append] at al
  refine ⟨⟨by simp only [List.length_append, List.length_take, List.length_drop]; omega, fun i m n em en => ?_⟩, ?_⟩
  · rw [List.getElem?_append, List.length_take, Nat.min_eq_left (by omega)] at em
    rw [List.getElem?_append] at en
    split at em
    · rename_i c
      rw [if_pos c] at en
      rw [List.getElem?_take_of_lt c] at em
      refine g.2 i m n em ?_
      rw [List.getElem?_append_left (by omega)]
      rw [← e, List.getElem?_take_of_lt c] at en
      exact en
    · rename_i c
      rw [if_neg c] at en
      rw [List.getElem?_drop] at em
      refine g.2 _ m n em ?_
      rw [List.getElem?_append_right (by omega), show ms.length + (i - ns.length) - ms.length = i - ns.length by omega]
      exact en
  · rw [dot_lead (by omega) (by omega), show ns.length + (ms.length - ns.length) = ms.length by omega]
theorem rep_getD (n k : Nat) : (rep0 n).getD k 0 = 0 := by
  unfold rep0
  rw [List.getD_eq_getElem?_getD, List.getElem?_replicate]
  split <;> rfl
theorem turn_own {ss os : List Int} {n : Nat} (h : ∀ o ∈ os, 0 ≤ o ∧ o < n) : turnL (ss.take n) os = turnL ss os := by
  unfold turnL
  refine List.map_congr_left fun o ho => ?_
  have := h o ho
  rw [List.getD_eq_getElem?_getD, List.getElem?_take_of_lt (by omega), List.getD_eq_getElem?_getD]
theorem back_turn {ns ss L os A : List Int} {st : Int} (t : turnOk ns.length os) (hl : ss.length = ns.length + L.length) (g : good (turnL ns os ++ L) A) : good (ns ++ L) (putL (rep0 ns.length) os (A.take (turnL ns os).length) ++ A.drop (turnL ns os).length) ∧ st + dotI A (turnL ss os ++ ss.drop ns.length) = st + dotI (putL (rep0 ns.length) os (A.take (turnL ns os).length) ++ A.drop (turnL ns os).length) ss := by
  have ol : os.length = ns.length := by rw [t.length_eq, up_len]
  have tl : (turnL ns os).length = ns.length := by unfold turnL; rw [List.length_map, ol]
  have om : ∀ o ∈ os, 0 ≤ o ∧ o < (ns.length : Int) := fun o ho => up_mem.mp (t.subset ho)
  have nd : os.Nodup := t.nodup_iff.mpr (up_nd _)
  have al := g.1
  rw [List.length_append, tl] at al
  rw [tl]
  have rl : (rep0 ns.length).length = ns.length := List.length_replicate ..
  have pl : (putL (rep0 ns.length) os (A.take ns.length)).length = ns.length := by rw [put_len, rl]
  have kl : (A.take ns.length).length = ns.length := by rw [List.length_take]; omega
  refine ⟨⟨by rw [List.length_append, pl, List.length_drop, List.length_append]; omega, fun i m n em en => ?_⟩, ?_⟩
  · rw [List.getElem?_append, pl] at em
    rw [List.getElem?_append] at en
    split at em
    · rename_i c
      rw [if_pos c] at en
      rcases put_get (fun o ho => (om o ho).1) em with ⟨_, h2⟩ | ⟨j, h1, h2⟩
      · rcases h2 with h2 | h2
        · exact absurd (t.mem_iff.mpr (up_mem.mpr (by omega))) h2
        · omega
      · have jl := (List.getElem?_eq_some_iff.mp h1).1
        rw [List.getElem?_take_of_lt (by omega)] at h2
        refine g.2 j m n h2 ?_
        rw [List.getElem?_append_left (by omega)]
        unfold turnL
        rw [List.getElem?_map, h1]
        show some (ns.getD (i : Int).toNat 0) = some n
        rw [Int.toNat_natCast, List.getD_eq_getElem?_getD, en]; rfl
    · rename_i c
      rw [if_neg c] at en
      rw [List.getElem?_drop] at em
      refine g.2 _ m n em ?_
      rw [List.getElem?_append_right (by omega), tl, show ns.length + (i - ns.length) - ns.length = i - ns.length by omega]
      exact en
  · have tl2 : (turnL ss os).length = ns.length := by unfold turnL; rw [List.length_map, ol]
    conv => lhs; rw [← List.take_append_drop ns.length A]
    conv => rhs; rw [← List.take_append_drop ns.length ss]
    rw [dot_app (by omega), dot_app (by rw [pl, List.length_take]; omega), dot_put nd (by omega) (by rw [rl, List.length_take]; omega) (fun o ho => ⟨(om o ho).1, by rw [rl]; exact (om o ho).2, rep_getD _ _⟩), turn_own om, dot_comm (rep0 _), dot_zero]
    omega
theorem back_ok {ns ss L A : List Int} {st : Int} {d : Dg} (nf : fltD ns d = none) (hl : ss.length = ns.length + L.length) (g : good (sdsD ns d ++ lensD ns L d) A) : good (ns ++ L) (backD ns (sdsD ns d) A d) ∧ staD ns ss st d + dotI A (stsD ns ss d) = st + dotI (backD ns (sdsD ns d) A d) ss := by
  cases d with
  | turn os => exact back_turn (flt_turn nf) hl g
  | lead ms => exact back_lead (flt_lead nf) hl g
  | spread side m =>
    have no := (flt_spread nf).1
    unfold off1 at no
    exact back_spread (k := side.toNat) (by omega) hl g
  | inner side =>
    obtain ⟨k, rfl, kl⟩ := side_nat (flt_inner nf)
    exact back_inner (k := k) kl hl g
  | flip side =>
    obtain ⟨k, rfl, kl⟩ := side_nat (flt_flip nf)
    exact back_flip (k := k) kl hl g
  | cut side f m t =>
    obtain ⟨no, nb⟩ := flt_cut nf
    obtain ⟨k, rfl, kl⟩ := side_nat no
    exact back_cut (k := k) kl nb hl g
theorem sts_lens {ns ss L : List Int} {d : Dg} (nf : fltD ns d = none) (hl : ss.length = ns.length + L.length) : (stsD ns ss d).length = (sdsD ns d).length + (lensD ns L d).length := by
  cases d with
  | turn os =>
    have ol : os.length = ns.length := by rw [(flt_turn nf).length_eq, up_len]
    show (turnL ss os ++ ss.drop ns.length).length = (turnL ns os).length + L.length
    unfold turnL; rw [List.length_append, List.length_map, List.length_map, List.length_drop]; omega
  | lead ms =>
    have nl : ns.length ≤ ms.length := by have := congrArg List.length (flt_lead nf); rw [List.length_take] at this; omega
    show (ss.take _ ++ rep0 _ ++ ss.drop _).length = ms.length + L.length
    rw [List.length_append, List.length_append, List.length_take, List.length_drop, rep0_len]; omega
  | spread side m => show (insL ss _ _).length = (insL ns _ _).length + L.length; rw [ins_len, ins_len]; omega
  | inner side =>
    obtain ⟨k, rfl, kl⟩ := side_nat (flt_inner nf)
    show (insL (ss.eraseIdx k) _ _).length = (ns.eraseIdx k).length + (_ :: L).length
    rw [ins_len, List.length_eraseIdx, if_pos (by omega), List.length_eraseIdx, if_pos kl, List.length_cons]; omega
  | flip side => show (ss.set _ _).length = ns.length + L.length; rw [List.length_set]; exact hl
  | cut side f m t => show (ss.set _ _).length = (ns.set _ _).length + L.length; rw [List.length_set, List.length_set]; exact hl
theorem prod_setle {ns : List Int} (h : ∀ n ∈ ns, 0 ≤ n) {m : Int} (m0 : 0 ≤ m) : ∀ (k : Nat), one1 m ≤ one1 (ns.getD k 0) → 1 ≤ prodI ((ns.set k m).map one1) ∧ prodI ((ns.set k m).map one1) ≤ prodI (ns.map one1) := by
  have o1 := one1_pos m0
  induction ns with
  | nil => intro k _; rw [List.set_nil]; exact ⟨by decide, Int.le_refl _⟩
  | cons n ns ih =>
    have a := one1_pos (h n List.mem_cons_self)
    have nn : ∀ m ∈ ns, 0 ≤ m := fun m hm => h m (List.mem_cons_of_mem _ hm)
    intro k hk
    cases k with
    | zero =>
      rw [List.getD_cons_zero] at hk
      rw [List.set_cons_zero, List.map_cons, List.map_cons, prod_cons, prod_cons]
      have b := prod1_pos nn
      exact ⟨Int.le_trans (by decide) (Int.mul_le_mul o1 b (by decide) (by omega)), Int.mul_le_mul_of_nonneg_right hk (by omega)⟩
    | succ k =>
      rw [List.getD_cons_succ] at hk
      rw [List.set_cons_succ, List.map_cons, List.map_cons, prod_cons, prod_cons]
      have b := ih nn k hk
      exact ⟨Int.le_trans (by decide) (Int.mul_le_mul a b.1 (by decide) (by omega)), Int.mul_le_mul_of_nonneg_left b.2 (by omega)⟩
theorem cut_many {f g m n : Int} (f0 : 0 ≤ f) (g1 : 1 ≤ g) (m1 : 0 < m) (h : f + (m - 1) * g < n) : m ≤ n := by
  have := Int.mul_le_mul_of_nonneg_left g1 (show 0 ≤ m - 1 by omega)
  omega
def ledOk (ns : List Int) : Dg → Prop
  | .lead ms => ms.take ns.length = ns → fit ms
  | _ => True
theorem fit_cut {ns : List Int} {k : Nat} {m : Int} (h : fit ns) (m0 : 0 ≤ m) (kl : k < ns.length) (hm : m = 0 ∨ m ≤ ns.getD k 0) : fit (ns.set k m) := by
  have nk := h.1 _ (getD_memI kl)
  have ho : one1 m ≤ one1 (ns.getD k 0) := by unfold one1; split <;> split <;> omega
  have p := prod_setle (fun n hn => (h.1 n hn).1) m0 k ho
  refine ⟨fun n hn => ?_, by rw [List.length_set]; exact h.2.1, p.1, Int.le_trans p.2 h.2.2.2⟩
  rcases List.mem_or_eq_of_mem_set hn with z | z
  · exact h.1 n z
  · subst z; omega
theorem fit_next {ns : List Int} {d : Dg} (h : fit ns) (nf : fltD ns d = none) (hl : ledOk ns d) : fit (sdsD ns d) := by
  have nn : ∀ n ∈ ns, 0 ≤ n := fun n hn => (h.1 n hn).1
  cases d with
  | turn os =>
    have p := turn_perm (flt_turn nf)
    have e := prod_perm (p.map one1)
    exact ⟨fun n hn => h.1 n (p.subset hn), by show (turnL ns os).length ≤ 6; rw [p.length_eq]; exact h.2.1, by show 1 ≤ prodI ((turnL ns os).map one1); rw [e]; exact h.2.2.1, by show prodI ((turnL ns os).map one1) ≤ 512; rw [e]; exact h.2.2.2⟩
  | lead ms => exact hl (flt_lead nf)
  | spread side m =>
    obtain ⟨no, nm, nb⟩ := flt_spread nf
    have b1 : (insL ns side.toNat m).length ≤ 6 := by unfold bigI at nb; omega
    have b2 : prodI ((insL ns side.toNat m).map one1) ≤ 512 := by unfold bigI at nb; omega
    have mem : ∀ n ∈ insL ns side.toNat m, 0 ≤ n := fun n hn => by
      unfold insL at hn
      rcases List.mem_append.mp hn with hn | hn
      · rcases List.mem_append.mp hn with hn | hn
        · exact nn n (List.mem_of_mem_take hn)
        · cases List.mem_singleton.mp hn; omega
      · exact nn n (List.mem_of_mem_drop hn)
    have sd : sdOk ns := fit_sdk h
    have rb := room_in nn
    have bi := big_ins (k := side.toNat) h.2.1 sd (fit_nbig h) (show 0 ≤ m by omega)
    have mr : m ≤ 512 := by
      have : ¬ roomI ns < m := fun z => nb (bi.mpr (.inr z))
      omega
    refine ⟨fun n hn => ⟨mem n hn, ?_⟩, b1, prod1_pos mem, b2⟩
    unfold insL at hn
    rcases List.mem_append.mp hn with hn | hn
    · rcases List.mem_append.mp hn with hn | hn
      · exact (h.1 n (List.mem_of_mem_take hn)).2
      · cases List.mem_singleton.mp hn; exact mr
    · exact (h.1 n (List.mem_of_mem_drop hn)).2
  | inner side =>
    have e := erase_one_le (k := side.toNat) nn
    have mem : ∀ n ∈ ns.eraseIdx side.toNat, 0 ≤ n ∧ n ≤ 512 := fun n hn => h.1 n (List.mem_of_mem_eraseIdx hn)
    exact ⟨mem, by show (ns.eraseIdx _).length ≤ 6; rw [List.length_eraseIdx]; have := h.2.1; split <;> omega, prod1_pos fun n hn => (mem n hn).1, Int.le_trans e h.2.2.2⟩
  | flip side => exact h
  | cut side f m t =>
    obtain ⟨no, nb⟩ := flt_cut nf
    obtain ⟨k, rfl, kl⟩ := side_nat no
    unfold bad at nb
    rw [Int.toNat_natCast] at nb
    show fit (ns.set (k : Int).toNat m)
    rw [Int.toNat_natCast]
    refine fit_cut h (by omega) kl ?_
    by_cases z : m = 0
    · exact .inl z
    · exact .inr (cut_many (f := f) (g := t) (by omega) (by omega) (by omega) (by omega))
def StAt (H : Hp) (r : Addr) (x : Dg × List Int) : Prop := ∃ p a b, H r = some (.tup [.ref p, .ref a, .ref b]) ∧ DgAt H p x.1 ∧ H a = some (.tup (x.2.map V.int)) ∧ H b = some (.tup ((sdsD x.2 x.1).map V.int))
def UpT (H H' : Hp) : Prop := ∀ a xs, H a = some (.tup xs) → H' a = some (.tup xs)
theorem same_up {H H' : Hp} (s : Same H H') : UpT H H' := fun _ _ e => s _ _ e
theorem UpT.trans {H H' H2 : Hp} (s : UpT H H') (t : UpT H' H2) : UpT H H2 := fun _ _ e => t _ _ (s _ _ e)
theorem up_put {H : Hp} {l : Addr} {xs ys : List V} (h : H l = some (.lst xs)) : UpT H (upd H l (.lst ys)) := fun a zs e => by
  have ne : a ≠ l := fun z => by rw [z, h] at e; cases e
  rw [upd_ne ne]; exact e
theorem DgAt.up {H H' : Hp} {p : Addr} (s : UpT H H') : ∀ {d : Dg}, DgAt H p d → DgAt H' p d
  | .turn _, ⟨b, h1, h2, h3⟩ => ⟨b, s _ _ h1, s _ _ h2, h3⟩
  | .flip _, h => s _ _ h
  | .cut .., ⟨h, r⟩ => ⟨s _ _ h, r⟩
  | .spread .., ⟨h, r⟩ => ⟨s _ _ h, r⟩
  | .lead _, ⟨b, h1, h2, h3⟩ => ⟨b, s _ _ h1, s _ _ h2, h3⟩
  | .inner _, h => s _ _ h
theorem VwAt.up {H H' : Hp} {v : Addr} {ns ss : List Int} {st : Int} (s : UpT H H') (h : VwAt H v ns st ss) : VwAt H' v ns st ss := let ⟨a, b, h1, h2, h3⟩ := h; ⟨a, b, s _ _ h1, s _ _ h2, s _ _ h3⟩
theorem StAt.up {H H' : Hp} {r : Addr} {x : Dg × List Int} (s : UpT H H') (h : StAt H r x) : StAt H' r x := let ⟨p, a, b, h1, h2, h3, h4⟩ := h; ⟨p, a, b, s _ _ h1, h2.up s, s _ _ h3, s _ _ h4⟩
def StsAt (H : Hp) (rs : List Addr) (ds : List (Dg × List Int)) : Prop := rs.length = ds.length ∧ ∀ (i : Nat) r x, rs[i]? = some r → ds[i]? = some x → StAt H r x
theorem StsAt.up {H H' : Hp} {rs : List Addr} {ds : List (Dg × List Int)} (s : UpT H H') (h : StsAt H rs ds) : StsAt H' rs ds := ⟨h.1, fun i r x e1 e2 => (h.2 i r x e1 e2).up s⟩
theorem StsAt.snoc {H : Hp} {rs : List Addr} {ds : List (Dg × List Int)} {r : Addr} {x : Dg × List Int} (h : StsAt H rs ds) (h2 : StAt H r x) : StsAt H (rs ++ [r]) (ds ++ [x]) := by
  refine ⟨by rw [List.length_append, List.length_append, h.1]; rfl, fun i r' x' e1 e2 => ?_⟩
  rw [List.getElem?_append] at e1 e2
  rw [← h.1] at e2
  split at e1
  · rename_i c; rw [if_pos c] at e2; exact h.2 i _ _ e1 e2
  · rename_i c
    rw [if_neg c] at e2
    cases z : i - rs.length with
    | zero => rw [z] at e1 e2; cases e1; cases e2; exact h2
    | succ n => rw [z] at e1; cases e1
def ChainR (first : List Int) : List (Dg × List Int) → List Int → List Int → Prop
  | [], ns, L => ns = first ∧ L = []
  | x :: r, ns, L => ns = sdsD x.2 x.1 ∧ fltD x.2 x.1 = none ∧ x.2.length ≤ 6 ∧ ∃ L0, L = lensD x.2 L0 x.1 ∧ ChainR first r x.2 L0
def backs : List (Dg × List Int) → List Int → List Int
  | [], A => A
  | x :: r, A => backs r (backD x.2 (sdsD x.2 x.1) A x.1)
theorem app_nil2 {first ns L A : List Int} (h : ChainR first [] ns L) (g : good (ns ++ L) A) : good first A := by
  obtain ⟨rfl, rfl⟩ := h
  rw [List.append_nil] at g; exact g
theorem good_back {ns L A : List Int} {d : Dg} (nf : fltD ns d = none) (g : good (sdsD ns d ++ lensD ns L d) A) : good (ns ++ L) (backD ns (sdsD ns d) A d) :=
  (back_ok (ss := rep0 (ns.length + L.length)) (st := 0) nf (rep0_len _) g).1
theorem prod_take1 : ∀ {l : List Int}, (∀ n ∈ l, 1 ≤ n) → ∀ j, 1 ≤ prodI (l.take j) ∧ prodI (l.take j) ≤ prodI l
  | [], _, j => by rw [List.take_nil]; exact ⟨by decide, Int.le_refl _⟩
  | n :: l, h, 0 => by
    rw [List.take_zero, prod_cons]
    have a := h n List.mem_cons_self
    have b := (prod_take1 (l := l) (fun m hm => h m (List.mem_cons_of_mem _ hm)) l.length).1
    rw [List.take_length] at b
    exact ⟨by decide, Int.le_trans (by decide) (Int.mul_le_mul a b (by decide) (by omega))⟩
  | n :: l, h, j + 1 => by
    rw [List.take_succ_cons, prod_cons, prod_cons]
    have a := h n List.mem_cons_self
    have b := prod_take1 (l := l) (fun m hm => h m (List.mem_cons_of_mem _ hm)) j
    exact ⟨Int.le_trans (by decide) (Int.mul_le_mul a b.1 (by decide) (by omega)), Int.mul_le_mul_of_nonneg_left b.2 (by omega)⟩
theorem one1_one {n : Int} (h : 0 ≤ n) : one1 (one1 n) = one1 n := by
  unfold one1
  by_cases c : n = 0
  · rw [if_pos c]; rfl
  · rw [if_neg c, if_neg c]
def fit1 (ns : List Int) : Prop := fit ns ∧ ∀ n ∈ ns, 1 ≤ n
theorem fit1_map {ns : List Int} (h : fit ns) : fit1 (ns.map one1) := by
  have e : (ns.map one1).map one1 = ns.map one1 := by
    rw [List.map_map]
    exact List.map_congr_left fun n hn => one1_one (h.1 n hn).1
  have m : ∀ n ∈ ns.map one1, 1 ≤ n ∧ n ≤ 512 := fun n hn => by
    obtain ⟨k, hk, rfl⟩ := List.mem_map.mp hn
    have := h.1 k hk
    unfold one1; split <;> omega
  exact ⟨⟨fun n hn => ⟨by have := m n hn; omega, (m n hn).2⟩, by rw [List.length_map]; exact h.2.1, by rw [e]; exact h.2.2.1, by rw [e]; exact h.2.2.2⟩, fun n hn => (m n hn).1⟩
theorem fit1_take {ns : List Int} (h : fit1 ns) (j : Nat) : fit1 (ns.take j) := by
  have p := prod_take1 (l := ns.map one1) (fun n hn => by
    obtain ⟨k, hk, rfl⟩ := List.mem_map.mp hn
    exact one1_pos (h.1.1 k hk).1) j
  rw [← List.map_take] at p
  exact ⟨⟨fun n hn => h.1.1 n (List.mem_of_mem_take hn), by rw [List.length_take]; have := h.1.2.1; omega, p.1, Int.le_trans p.2 h.1.2.2.2⟩, fun n hn => h.2 n (List.mem_of_mem_take hn)⟩
theorem head_take {ns us : List Int} {x : Int} (h : 0 < ns.length) (e : (x :: us).take ns.length = ns) : x = ns.getD 0 0 := by
  cases ns with
  | nil => cases h
  | cons y l => rw [List.length_cons, List.take_succ_cons] at e; exact (List.cons.inj e).1
theorem grow_room {ns : List Int} (h : fit ns) : grow ns (roomI ns) ns.length := by
  have r := room_in fun n hn => (h.1 n hn).1
  have r1 := fit_room h
  refine ⟨h.1, rfl, r1, r.2, h.2.2.1, ?_⟩
  unfold roomI
  exact Int.ediv_mul_le _ (by have := h.2.2.1; omega)
theorem mid_erase {A : List Int} {k b : Nat} (kb : k < b) (bl : b ≤ A.length) : (A.take b).take k ++ (A.take b).drop (k + 1) ++ A.drop b = A.eraseIdx k := by
  conv => rhs; rw [← List.take_append_drop b A]
  rw [List.eraseIdx_append_of_lt_length (by rw [List.length_take]; omega), List.eraseIdx_eq_take_drop_succ]
theorem mid_set {A : List Int} {k b : Nat} {y : Int} (kb : k < b) (bl : b ≤ A.length) : (A.take b).take k ++ [y] ++ (A.take b).drop (k + 1) ++ A.drop b = A.set k y := by
  conv => rhs; rw [← List.take_append_drop b A]
  rw [List.set_append_left _ _ (by rw [List.length_take]; omega), List.set_eq_take_append_cons_drop, if_pos (by rw [List.length_take]; omega), List.append_assoc (List.take k _)]; rfl
theorem mid_ins {A : List Int} {k b : Nat} (kb : k ≤ b) (bl : b < A.length) : (A.take b).take k ++ (A.drop b).take 1 ++ (A.take b).drop k ++ (A.drop b).drop 1 = insL (A.eraseIdx b) k (A.getD b 0) := by
  have e : (A.drop b).take 1 = [A.getD b 0] := by
    rw [List.drop_eq_getElem_cons bl, List.take_succ_cons, List.take_zero, List.getD_eq_getElem?_getD, List.getElem?_eq_getElem bl]; rfl
  have l : (A.take b).length = b := by rw [List.length_take]; omega
  rw [e, List.eraseIdx_eq_take_drop_succ, List.drop_drop]
  unfold insL
  rw [List.take_append_of_le_length (by omega), List.drop_append_of_le_length (by omega), ← List.append_assoc]
theorem cut16 (ns : List Int) : ∃ ms : List Int, cutV (ns.map V.int) (some 1) (some 7) = ms.map V.int ∧ ms.length ≤ 6 := by
  refine ⟨(ns.drop (min 1 ns.length)).take (min 7 ns.length - min 1 ns.length), ?_, ?_⟩
  · unfold cutV; simp only [HT.sIx, len_map]; rw [if_neg (by omega), if_neg (by omega), List.map_take, List.map_drop]; rfl
  · rw [List.length_take, List.length_drop]; omega
def splback : Sp := fun vs H Q _ => ∃ (p a b c : Addr) (ns L A : List Int) (d : Dg), vs = [.ref p, .ref a, .ref b, .ref c] ∧ DgAt H p d ∧ H a = some (.tup (ns.map V.int)) ∧ H b = some (.tup ((sdsD ns d).map V.int)) ∧ H c = some (.tup (A.map V.int)) ∧ fltD ns d = none ∧ ns.length ≤ 6 ∧ (sdsD ns d).length ≤ 20 ∧ A.length ≤ 90 ∧ good (sdsD ns d ++ lensD ns L d) A ∧ ∀ H' r, Same H H' → H' r = some (.tup ((backD ns (sdsD ns d) A d).map V.int)) → Q (.ref r) H'
def splleads : Sp := fun vs H Q _ => ∃ (fa va dl la : Addr) (first ns L ss : List Int) (st left : Int) (rs : List Addr) (ds : List (Dg × List Int)), vs = [.ref fa, .ref va, .ref dl, .ref la, .int left] ∧ H fa = some (.tup (first.map V.int)) ∧ VwAt H va ns st ss ∧ H dl = some (.lst (rs.map V.ref)) ∧ StsAt H rs ds ∧ H la = some (.tup ((ns ++ L).map V.int)) ∧ (∀ n ∈ ns ++ L, 1 ≤ n ∧ n ≤ 512) ∧ ns.length ≤ 6 ∧ (ns ++ L).length ≤ 80 ∧ ss.length = (ns ++ L).length ∧ ChainR first ds.reverse ns L ∧ fit first ∧ (∀ A, good (ns ++ L) A → st + dotI A ss = plH first (backs ds.reverse A)) ∧ ∀ H', Same H H' → Q (.bl true) H'
theorem ixN_natI {k : Int} {n : Nat} (h0 : 0 ≤ k) (h1 : k.toNat < n) : ixN n k = some k.toNat := by
  have := ixN_nat (k := k.toNat) (n := n) h1
  rwa [Int.toNat_of_nonneg h0] at this
theorem cut_last (ms : List Int) : cutV (ms.map V.int) none (some (-1)) = (ms.take (ms.length - 1)).map V.int := by
  unfold cutV; simp only [HT.sIx, len_map]; rw [if_pos (by decide), List.drop_zero, List.map_take]; congr 1; omega
theorem good_snoc {N A : List Int} {i : Nat} {n a : Int} (hn : N[i]? = some n) (g : good (N.take i) A) (a0 : 0 ≤ a) (a1 : a < n) : good (N.take (i + 1)) (A ++ [a]) := by
  rw [List.take_add_one, hn]
  refine ⟨by rw [List.length_append, List.length_append, g.1]; rfl, fun j m k e1 e2 => ?_⟩
  rw [List.getElem?_append] at e1 e2
  rw [← g.1] at e2
  split at e1
  · rename_i c; rw [if_pos c] at e2; exact g.2 j m k e1 e2
  · rename_i c
    rw [if_neg c] at e2
    cases z : j - A.length with
    | zero => rw [z] at e1 e2; cases e1; cases e2; exact ⟨a0, a1⟩
    | succ n => rw [z] at e1; cases e1
theorem len_mono {ns L : List Int} {d : Dg} (nf : fltD ns d = none) : ns.length + L.length ≤ (sdsD ns d).length + (lensD ns L d).length := by
  cases d with
  | turn os =>
    have ol : os.length = ns.length := by rw [(flt_turn nf).length_eq, up_len]
    show ns.length + L.length ≤ (turnL ns os).length + L.length
    unfold turnL; rw [List.length_map]; omega
  | lead ms =>
    have nl : ns.length ≤ ms.length := by have := congrArg List.length (flt_lead nf); rw [List.length_take] at this; omega
    show ns.length + L.length ≤ ms.length + L.length
    omega
  | spread side m => show _ ≤ (insL ns _ _).length + L.length; rw [ins_len]; omega
  | inner side =>
    show _ ≤ (ns.eraseIdx side.toNat).length + (_ :: L).length
    rw [List.length_eraseIdx, List.length_cons]; split <;> omega
  | flip side => exact Nat.le_refl _
  | cut side f m t => show _ ≤ (ns.set _ _).length + L.length; rw [List.length_set]; omega
theorem rev_drop {ds : List (Dg × List Int)} {i : Nat} {y : Dg × List Int} (hi : i < ds.length) (h : ds[ds.length - 1 - i]? = some y) : ds.reverse.drop i = y :: ds.reverse.drop (i + 1) := by
  have hl : i < ds.reverse.length := by rw [List.length_reverse]; exact hi
  rw [List.drop_eq_getElem_cons hl]
  congr 1
  have := List.getElem?_reverse (l := ds) hi
  rw [h, List.getElem?_eq_getElem hl] at this
  exact Option.some.inj this
def kdD : Dg → Str
  | .turn _ => "turn" | .flip _ => "flip" | .cut .. => "cut" | .spread .. => "spread" | .lead _ => "lead" | .inner _ => "inner"
theorem dg_word {H : Hp} {p : Addr} : ∀ {d : Dg}, DgAt H p d → ∃ xs, H p = some (.tup (.str (kdD d) :: xs))
  | .turn _, ⟨_, h, _⟩ => ⟨_, h⟩
  | .flip _, h => ⟨_, h⟩
  | .cut .., ⟨h, _⟩ => ⟨_, h⟩
  | .spread .., ⟨h, _⟩ => ⟨_, h⟩
  | .lead _, ⟨_, h, _⟩ => ⟨_, h⟩
  | .inner _, h => ⟨_, h⟩
theorem kd_inner {d : Dg} (h : kdD d = Str.ofString "inner") : ∃ side, d = .inner side := by
  cases d with
  | inner side => exact ⟨side, rfl⟩
  | turn os => exact absurd h (show ¬ Str.ofString "turn" = Str.ofString "inner" by decide +kernel)
  | flip side => exact absurd h (show ¬ Str.ofString "flip" = Str.ofString "inner" by decide +kernel)
  | cut side f m g => exact absurd h (show ¬ Str.ofString "cut" = Str.ofString "inner" by decide +kernel)
  | spread side m => exact absurd h (show ¬ Str.ofString "spread" = Str.ofString "inner" by decide +kernel)
  | lead ms => exact absurd h (show ¬ Str.ofString "lead" = Str.ofString "inner" by decide +kernel)
theorem lens_not {ns L : List Int} {d : Dg} (h : ¬ kdD d = Str.ofString "inner") : lensD ns L d = L := by
  cases d with
  | inner side => exact absurd rfl h
  | turn os => rfl
  | flip side => rfl
  | cut side f m g => rfl
  | spread side m => rfl
  | lead ms => rfl
theorem inV_int (n : Int) : ∀ (ns : List Int), inV (.int n) (ns.map V.int) = decide (n ∈ ns)
  | [] => rfl
  | m :: ns => by
    have := inV_int n ns
    unfold inV at this ⊢
    rw [List.map_cons, List.any_cons, this]
    by_cases e : n = m
    · subst e; simp [eqV]
    · simp [eqV, e]; exact fun z => absurd z.symm e
theorem one_sides {ns L : List Int} {d : Dg} (h1 : ∀ n ∈ ns ++ L, 1 ≤ n ∧ n ≤ 512) (hf : fit (sdsD ns d)) (nf : fltD ns d = none) (nz : 0 ∉ sdsD ns d) : ∀ n ∈ sdsD ns d ++ lensD ns L d, 1 ≤ n ∧ n ≤ 512 := fun n hn => by
  rcases List.mem_append.mp hn with h | h
  · have b := hf.1 n h
    have : n ≠ 0 := fun z => nz (z ▸ h)
    omega
  · cases d with
    | inner side =>
      obtain ⟨k, rfl, kl⟩ := side_nat (flt_inner nf)
      rcases List.mem_cons.mp h with z | z
      · rw [z]; exact h1 _ (List.mem_append.mpr (.inl (getD_memI kl)))
      · exact h1 n (List.mem_append.mpr (.inr z))
    | turn os => exact h1 n (List.mem_append.mpr (.inr h))
    | flip side => exact h1 n (List.mem_append.mpr (.inr h))
    | cut side f m g => exact h1 n (List.mem_append.mpr (.inr h))
    | spread side m => exact h1 n (List.mem_append.mpr (.inr h))
    | lead ms => exact h1 n (List.mem_append.mpr (.inr h))
theorem lens_le {ns L : List Int} (d : Dg) : (lensD ns L d).length ≤ L.length + 1 := by
  cases d with
  | inner side => exact Nat.le_refl _
  | turn os => exact Nat.le_succ _
  | flip side => exact Nat.le_succ _
  | cut side f m g => exact Nat.le_succ _
  | spread side m => exact Nat.le_succ _
  | lead ms => exact Nat.le_succ _
abbrev samount : Stmt := top 10
def spamount : Sp := fun vs H Q _ => ∃ (a : Addr) (ns : List Int), vs = [.ref a] ∧ (H a = some (.lst (ns.map V.int)) ∨ H a = some (.tup (ns.map V.int))) ∧ sdOk ns ∧ Q (.int (prodI ns)) H
section
variable {P : Program} {w : World} {K : PySem.W.Frag} {mg : Str → Option Value} {base : Heap} {f : Addr} {fd : FuncData}
theorem scamount : FnScope ["sides", "product", "side"] ["sides"] (defScope samount) := ⟨rfl, rfl, rfl, by decide +kernel, rfl, by decide +kernel, by decide +kernel⟩
theorem okamount (F : Fun K "amount" "amount" samount f fd) : FnOk P w K mg base CX0 (1) f fd ["sides"] (spamount) := by
  have sc := scamount
  refine F.ok sc (fun vs H Q E h => ?_) (fun cdv A outer s H vs Q E hr h => ?_)
  · obtain ⟨a, ns, rfl, _⟩ := h; rfl
  obtain ⟨a, ns, rfl, ha | ha, hs, q⟩ := h
  · refine ⟨_, (pss_cons (ps_set (i := 1) sc.nd rfl (by first | exact Or.inl rfl | exact Or.inr rfl) pe_int) (pss_cons (ps_for PassesOwn.never rfl (pi_list (pv 0)) (pg_name (i := 2) sc.nd rfl (Or.inl rfl)) (pss_one (ps_set (i := 1) sc.nd rfl (by first | exact Or.inl rfl | exact Or.inr rfl) (pe_op op_mul (pv 1) (pv 2))))) (pss_one (ps_ret (pv 1))))), ?_⟩
    wp_walk using rRepT, tSeq, tIfS, inV, eqV
    refine LoopL.mk (xs := ns.map V.int) (.of ha) (fun i σ H' => H' = H ∧ ∃ y, σ = [some (.ref a), some (.int (prodI (ns.take i))), y]) ⟨rfl, _, rfl⟩ (fun i σ H' _ h => by rw [h.1]; exact .of ha) (fun i x σ H' e h => ?_) (fun σ H' h => ?_)
    · obtain ⟨h1, y, rfl⟩ := h
      subst h1
      obtain ⟨m, rfl, hm, m0, m1⟩ := sd_at hs e
      wp_walk using rRepT, tSeq, tIfS, inV, eqV
      rw [prod_step hm]
      exact ⟨.inr ⟨by omega, by omega⟩, rfl, _, rfl⟩
    · obtain ⟨h1, y, rfl⟩ := h
      subst h1
      wp_walk using rRepT, tSeq, tIfS, inV, eqV
      rw [len_map, List.take_length]
      exact q
  · refine ⟨_, (pss_cons (ps_set (i := 1) sc.nd rfl (by first | exact Or.inl rfl | exact Or.inr rfl) pe_int) (pss_cons (ps_for PassesOwn.never rfl (pi_tup (pv 0)) (pg_name (i := 2) sc.nd rfl (Or.inl rfl)) (pss_one (ps_set (i := 1) sc.nd rfl (by first | exact Or.inl rfl | exact Or.inr rfl) (pe_op op_mul (pv 1) (pv 2))))) (pss_one (ps_ret (pv 1))))), ?_⟩
    wp_walk using rRepT, tSeq, tIfS, inV, eqV
    refine LoopT.mk (xs := ns.map V.int) (.of ha) (fun i σ H' => H' = H ∧ ∃ y, σ = [some (.ref a), some (.int (prodI (ns.take i))), y]) ⟨rfl, _, rfl⟩ (fun i σ H' _ h => by rw [h.1]; exact .of ha) (fun i x σ H' e h => ?_) (fun σ H' h => ?_)
    · obtain ⟨h1, y, rfl⟩ := h
      subst h1
      obtain ⟨m, rfl, hm, m0, m1⟩ := sd_at hs e
      wp_walk using rRepT, tSeq, tIfS, inV, eqV
      rw [prod_step hm]
      exact ⟨.inr ⟨by omega, by omega⟩, rfl, _, rfl⟩
    · obtain ⟨h1, y, rfl⟩ := h
      subst h1
      wp_walk using rRepT, tSeq, tIfS, inV, eqV
      rw [len_map, List.take_length]
      exact q
end
abbrev sbreadth : Stmt := top 11
def spbreadth : Sp := fun vs H Q _ => ∃ (a : Addr) (ns : List Int), vs = [.ref a] ∧ H a = some (.tup (ns.map V.int)) ∧ sdOk ns ∧ ns.length ≤ 63 ∧ ∀ H', Same H H' → Q (.int (prodI (ns.map one1))) H'
section
variable {P : Program} {w : World} {K : PySem.W.Frag} {mg : Str → Option Value} {base : Heap} {f : Addr} {fd : FuncData}
theorem scbreadth : FnScope ["sides"] ["sides"] (defScope sbreadth) := ⟨rfl, rfl, rfl, by decide +kernel, rfl, by decide +kernel, by decide +kernel⟩
theorem okbreadth (F : Fun K "breadth" "breadth" sbreadth f fd) (camount : Callee P w K mg base CX0 (1) "amount" ["sides"] spamount) : FnOk P w K mg base CX0 (2) f fd ["sides"] (spbreadth) := by
  have sc := scbreadth
  refine F.ok sc (fun vs H Q E h => ?_) (fun cdv A outer s H vs Q E hr h => ?_)
  · obtain ⟨a, ns, rfl, _⟩ := h; rfl
  obtain ⟨a, ns, rfl, ha, hs, h63, q⟩ := h
  refine ⟨_, (pss_one (ps_ret (pe_cal camount hr (by rfl) pass0 (pa_cons (pe_comp0 (own := ["side"]) rfl (pi_tup (pv 0)) (by decide) (by decide) rfl (by decide) (fun _ _ _ _ => (pg_name (i := 0) (show (["side"] : List Str).Nodup by decide +kernel) rfl (Or.inl rfl))) (fun _ _ _ _ => (pe_ifExp (pt_cmpR op_ne (pv 0) pe_int (nomark _)) (pv 0) pe_int))) pa_nil)))), ?_⟩
  wp_walk using rRepT, tSeq, tIfS, inV, eqV
  refine CompT.mk (xs := ns.map V.int) (.of ha) (fun i ys σ H' => H' = H ∧ ys = ((ns.take i).map one1).map V.int ∧ ∃ y, σ = [y]) ⟨rfl, rfl, _, rfl⟩ (fun i ys σ H' _ h => by rw [h.1]; exact .of ha) (fun i x ys σ H' e h => ?_) (fun ys σ H' h p hp => ?_)
  · obtain ⟨h1, h2, y, rfl⟩ := h
    subst h1 h2
    obtain ⟨m, rfl, hm, m0, m1⟩ := sd_at hs e
    have e1 : ((ns.take (i + 1)).map one1).map V.int = ((ns.take i).map one1).map V.int ++ [V.int (one1 m)] := by
      rw [List.take_add_one, hm, List.map_append, List.map_append]; rfl
    have e2 : (((ns.take i).map one1).map V.int).length < sizeLine := by
      rw [List.length_map, List.length_map, List.length_take]; exact small1000 (by omega)
    wp_walk using rRepT, tSeq, tIfS, inV, eqV, e1
    refine ⟨e2, ?_⟩
    unfold one1
    by_cases m2 : m = 0
    · simp [m2]
    · simp [m2]
  · obtain ⟨h1, h2, y, rfl⟩ := h
    subst h1 h2
    rw [len_map, List.take_length]
    exact ⟨p, _, rfl, .inl upd_same, one_ok hs, q _ (same_new hp _)⟩
end
abbrev sallowed : Stmt := top 12
section
variable {P : Program} {w : World} {K : PySem.W.Frag} {mg : Str → Option Value} {base : Heap} {f : Addr} {fd : FuncData}
theorem scallowed : FnScope ["sides"] ["sides"] (defScope sallowed) := ⟨rfl, rfl, rfl, by decide +kernel, rfl, by decide +kernel, by decide +kernel⟩
theorem okallowed (F : Fun K "allowed" "allowed" sallowed f fd) {CTooLarge : Addr} (nTooLarge : PySem.W.nsIn K mainGlobals "TooLarge" = some (some (.ref CTooLarge))) (cbreadth : Callee P w K mg base CX0 (2) "breadth" ["sides"] spbreadth) (zlen : mg "len" = none) {tMOST_SIDES : Tok} (gMOST_SIDES : mg "MOST_SIDES" = some (.int 6 tMOST_SIDES)) {tMOST_BREADTH : Tok} (gMOST_BREADTH : mg "MOST_BREADTH" = some (.int 512 tMOST_BREADTH)) (xTooLarge : PySem.W.excIn K CTooLarge [.type "ValueError", .type "Exception", .type "BaseException", .type "object"] "ValueError.__new__" = true) : FnOk P w K mg base (CX1 P w) (3) f fd ["sides"] ((spallowed CTooLarge)) := by
  have sc := scallowed
  refine F.okX sc (fun vs H Q E h => ?_) (fun cdv A outer s H vs Q E hr h => ?_)
  · obtain ⟨a, ns, rfl, _⟩ := h; rfl
  obtain ⟨a, ns, rfl, ha, hs, h63, q1, q2⟩ := h
  refine ⟨_, (pss_cons (ps_if (pt_cmpR op_gt (pe_callB call_len_seq (by rfl) zlen PySem.boot_len (pa_cons (pv 0) pa_nil)) (pe_glob (v := .int 6) (by rfl) gMOST_SIDES ⟨_, rfl⟩) (nomark _)) (pss_one (ps_raise PySem.F.excBase_ValueError rfl (by rfl) nTooLarge xTooLarge raises1 (pa_cons pe_str pa_nil))) pss_nil) (pss_cons (ps_if (pt_cmpR op_gt (pe_cal cbreadth hr (by rfl) pass0 (pa_cons (pv 0) pa_nil)) (pe_glob (v := .int 512) (by rfl) gMOST_BREADTH ⟨_, rfl⟩) (nomark _)) (pss_one (ps_raise PySem.F.excBase_ValueError rfl (by rfl) nTooLarge xTooLarge raises1 (pa_cons pe_str pa_nil))) pss_nil) (pss_one (ps_ret (pv 0))))), ?_⟩
  wp_walk using rRepT, tSeq, tIfS, inV, eqV, spbreadth
  refine ⟨_, .inr (.of ha), ?_⟩
  rw [len_map]
  by_cases h6 : 6 < ns.length
  · rw [if_pos (by omega)]
    exact ⟨small (by decide), q1 (.inl h6) _ (Same.refl _)⟩
  rw [if_neg (by omega)]
  refine ⟨ns, ha, hs, h63, fun H1 s1 => ?_⟩
  by_cases h5 : 512 < prodI (ns.map one1)
  · rw [if_pos h5]
    exact ⟨small (by decide), q1 (.inr h5) _ s1⟩
  rw [if_neg h5]
  exact q2 (fun z => z.elim h6 h5) _ s1
end
abbrev sstridesof : Stmt := top 13
def spstridesof : Sp := fun vs H Q _ => ∃ (a : Addr) (ns : List Int), vs = [.ref a] ∧ H a = some (.tup (ns.map V.int)) ∧ sdOk ns ∧ ns.length ≤ 63 ∧ ∀ H' p, Same H H' → H' p = some (.tup ((stL ns ns.length).reverse.map V.int)) → Q (.ref p) H'
section
variable {P : Program} {w : World} {K : PySem.W.Frag} {mg : Str → Option Value} {base : Heap} {f : Addr} {fd : FuncData}
theorem scstridesof : FnScope ["sides", "strides", "stride", "side"] ["sides"] (defScope sstridesof) := ⟨rfl, rfl, rfl, by decide +kernel, rfl, by decide +kernel, by decide +kernel⟩
theorem okstridesof (F : Fun K "strides_of" "strides_of" sstridesof f fd) (ztuple : mg "tuple" = none) (zreversed : mg "reversed" = none) : FnOk P w K mg base CX0 (1) f fd ["sides"] (spstridesof) := by
  have sc := scstridesof
  refine F.ok sc (fun vs H Q E h => ?_) (fun cdv A outer s H vs Q E hr h => ?_)
  · obtain ⟨a, ns, rfl, _⟩ := h; rfl
  obtain ⟨a, ns, rfl, ha, hs, h63, q⟩ := h
  refine ⟨_, (pss_cons (ps_set (i := 1) sc.nd rfl (by first | exact Or.inl rfl | exact Or.inr rfl) (pe_lst pa_nil)) (pss_cons (ps_set (i := 2) sc.nd rfl (by first | exact Or.inl rfl | exact Or.inr rfl) pe_int) (pss_cons (ps_for PassesOwn.never rfl (pi_revT (by rfl) zreversed (pv 0)) (pg_name (i := 3) sc.nd rfl (Or.inl rfl)) (pss_cons (ps_expr (pe_app (pv 1) (pv 2))) (pss_one (ps_set (i := 2) sc.nd rfl (by first | exact Or.inl rfl | exact Or.inr rfl) (pe_op op_mul (pv 2) (pv 3)))))) (pss_one (ps_ret (pe_tupRev rfl (by rfl) (by rfl) ztuple zreversed (pv 1))))))), ?_⟩
  wp_walk using rRepT, tSeq, tIfS, inV, eqV
  refine ⟨small (by decide), fun p hp => ?_⟩
  refine LoopV.mk (xs := ns.map V.int) (.of (same_new hp _ _ _ ha)) (fun i σ H' => Same H H' ∧ H' p = some (.lst ((stL ns i).map V.int)) ∧ ∃ y, σ = [some (.ref a), some (.ref p), some (.int (stP ns i)), y]) ⟨same_new hp _, upd_same, _, rfl⟩ (fun i σ H' _ h => .of (h.1 _ _ ha)) (fun i x σ H' hi e h => ?_) (fun σ H' h => ?_)
  · obtain ⟨h1, h2, y, rfl⟩ := h
    obtain ⟨m, rfl, hm, m0, m1⟩ := sd_at hs e
    rw [len_map] at hi hm
    have sm : ((stL ns i).map V.int).length < sizeLine := by
      rw [List.length_map, stL, List.length_map, List.length_range]; exact small1000 (by omega)
    have s2 : Same H (upd H' p (.lst (((stL ns i).map V.int) ++ [V.int (stP ns i)]))) := fun b o e => by
      have nb : b ≠ p := fun z => by rw [z, hp] at e; cases e
      rw [upd_ne nb]; exact h1 b o e
    wp_walk using rRepT, tSeq, tIfS, inV, eqV
    rw [stP_succ hi hm, stL_succ, List.map_append]
    refine ⟨⟨_, h2⟩, _, h2, sm, .inr ⟨by omega, by omega⟩, s2, rfl, ?_⟩
    exact ⟨rfl, _, rfl⟩
  · obtain ⟨h1, h2, y, rfl⟩ := h
    rw [len_map] at h2
    wp_walk using rRepT, tSeq, tIfS, inV, eqV
    refine ⟨_, .of h2, fun p2 hp2 => ?_⟩
    rw [← List.map_reverse]
    exact q _ _ (h1.trans (same_new hp2 _)) upd_same
end
abbrev schangedat : Stmt := top 14
def spchangedat : Sp := fun vs H Q _ => ∃ (a : Addr) (ns : List Int) (k : Nat) (m : Int), vs = [.ref a, .int k, .int m] ∧ H a = some (.tup (ns.map V.int)) ∧ ns.length ≤ 100 ∧ k < ns.length ∧ ∀ H' p, Same H H' → H' p = some (.tup ((ns.set k m).map V.int)) → Q (.ref p) H'
section
variable {P : Program} {w : World} {K : PySem.W.Frag} {mg : Str → Option Value} {base : Heap} {f : Addr} {fd : FuncData}
theorem scchangedat : FnScope ["row", "k", "number"] ["row", "k", "number"] (defScope schangedat) := ⟨rfl, rfl, rfl, by decide +kernel, rfl, by decide +kernel, by decide +kernel⟩
theorem okchangedat (F : Fun K "changed_at" "changed_at" schangedat f fd) : FnOk P w K mg base CX0 (1) f fd ["row", "k", "number"] (spchangedat) := by
  have sc := scchangedat
  refine F.ok sc (fun vs H Q E h => ?_) (fun cdv A outer s H vs Q E hr h => ?_)
  · obtain ⟨a, ns, k, m, rfl, _⟩ := h; rfl
  obtain ⟨a, ns, k, m, rfl, ha, h63, hk, q⟩ := h
  refine ⟨_, (pss_one (ps_ret (pe_op op_catS (pe_op op_catS (pe_slice sl_tupS (pv 0) po_none (po_some (pv 1))) (pe_tup (pa_cons (pv 2) pa_nil))) (pe_slice sl_tupS (pv 0) (po_some (pe_op op_add (pv 1) pe_int)) po_none)))), ?_⟩
  wp_walk using rRepT, tSeq, tIfS, inV, eqV
  refine ⟨_, ha, ?_, fun r1 H1 s1 hr1 => ⟨small (by decide), fun p hp => ⟨_, same_new hp _ _ _ hr1, ?_, fun r2 H2 s2 hr2 => ⟨_, s2 _ _ (same_new hp _ _ _ (s1 _ _ ha)), ?_, fun r3 H3 s3 hr3 => ⟨_, s3 _ _ hr2, _, hr3, ?_, fun r4 H4 s4 hr4 => ?_⟩⟩⟩⟩⟩
  · rw [len_map]; intro z; have z2 := z.2; simp only [HT.sIx] at z2; rw [if_neg (by omega)] at z2; omega
  · rw [cut_lo (by omega), len_map]; exact small (by rw [List.length_take]; omega)
  · rw [len_map]; intro z; have z1 := z.1; simp only [HT.sIx] at z1; rw [if_neg (by omega)] at z1; omega
  · rw [show (k : Int) + 1 = ((k + 1 : Nat) : Int) by omega, cut_lo (by omega), cut_hi (by omega)]; simp only [List.length_append, List.length_map, List.length_take, List.length_drop, List.length_cons, List.length_nil]; exact small (by omega)
  rw [show (k : Int) + 1 = ((k + 1 : Nat) : Int) by omega, cut_lo (by omega), cut_hi (by omega)] at hr4
  refine q _ _ (s1.trans ((same_new hp _).trans (s2.trans (s3.trans s4)))) ?_
  rw [hr4, List.set_eq_take_append_cons_drop, if_pos hk, List.append_assoc, List.map_append, List.map_cons]
  rfl
end
abbrev saddedat : Stmt := top 15
def spaddedat : Sp := fun vs H Q _ => ∃ (a : Addr) (ns : List Int) (k : Nat) (m : Int), vs = [.ref a, .int k, .int m] ∧ H a = some (.tup (ns.map V.int)) ∧ ns.length ≤ 100 ∧ ∀ H' p, Same H H' → H' p = some (.tup ((insL ns k m).map V.int)) → Q (.ref p) H'
section
variable {P : Program} {w : World} {K : PySem.W.Frag} {mg : Str → Option Value} {base : Heap} {f : Addr} {fd : FuncData}
theorem scaddedat : FnScope ["row", "k", "number"] ["row", "k", "number"] (defScope saddedat) := ⟨rfl, rfl, rfl, by decide +kernel, rfl, by decide +kernel, by decide +kernel⟩
theorem okaddedat (F : Fun K "added_at" "added_at" saddedat f fd) : FnOk P w K mg base CX0 (1) f fd ["row", "k", "number"] (spaddedat) := by
  have sc := scaddedat
  refine F.ok sc (fun vs H Q E h => ?_) (fun cdv A outer s H vs Q E hr h => ?_)
  · obtain ⟨a, ns, k, m, rfl, _⟩ := h; rfl
  obtain ⟨a, ns, k, m, rfl, ha, h63, q⟩ := h
  refine ⟨_, (pss_one (ps_ret (pe_op op_catS (pe_op op_catS (pe_slice sl_tupA (pv 0) po_none (po_some (pv 1))) (pe_tup (pa_cons (pv 2) pa_nil))) (pe_slice sl_tupA (pv 0) (po_some (pv 1)) po_none)))), ?_⟩
  wp_walk using rRepT, tSeq, tIfS, inV, eqV
  refine ⟨_, ha, fun r1 H1 s1 hr1 => ⟨small (by decide), fun p hp => ⟨_, same_new hp _ _ _ hr1, ?_, fun r2 H2 s2 hr2 => ⟨_, s2 _ _ (same_new hp _ _ _ (s1 _ _ ha)), fun r3 H3 s3 hr3 => ⟨_, s3 _ _ hr2, _, hr3, ?_, fun r4 H4 s4 hr4 => ?_⟩⟩⟩⟩⟩
  · rw [cut_any, len_map]; exact small (by rw [List.length_take]; omega)
  · rw [cut_any, cut_anyH]; simp only [List.length_append, List.length_map, List.length_take, List.length_drop, List.length_cons, List.length_nil]; exact small (by omega)
  rw [cut_any, cut_anyH] at hr4
  refine q _ _ (s1.trans ((same_new hp _).trans (s2.trans (s3.trans s4)))) ?_
  rw [hr4]; unfold insL; rw [List.map_append, List.map_append]; rfl
end
abbrev sdroppedat : Stmt := top 16
def spdroppedat : Sp := fun vs H Q _ => ∃ (a : Addr) (ns : List Int) (k : Nat), vs = [.ref a, .int k] ∧ H a = some (.tup (ns.map V.int)) ∧ ns.length ≤ 100 ∧ k < ns.length ∧ ∀ H' p, Same H H' → H' p = some (.tup ((ns.eraseIdx k).map V.int)) → Q (.ref p) H'
section
variable {P : Program} {w : World} {K : PySem.W.Frag} {mg : Str → Option Value} {base : Heap} {f : Addr} {fd : FuncData}
theorem scdroppedat : FnScope ["row", "k"] ["row", "k"] (defScope sdroppedat) := ⟨rfl, rfl, rfl, by decide +kernel, rfl, by decide +kernel, by decide +kernel⟩
theorem okdroppedat (F : Fun K "dropped_at" "dropped_at" sdroppedat f fd) : FnOk P w K mg base CX0 (1) f fd ["row", "k"] (spdroppedat) := by
  have sc := scdroppedat
  refine F.ok sc (fun vs H Q E h => ?_) (fun cdv A outer s H vs Q E hr h => ?_)
  · obtain ⟨a, ns, k, rfl, _⟩ := h; rfl
  obtain ⟨a, ns, k, rfl, ha, h63, hk, q⟩ := h
  refine ⟨_, (pss_one (ps_ret (pe_op op_catS (pe_slice sl_tupS (pv 0) po_none (po_some (pv 1))) (pe_slice sl_tupS (pv 0) (po_some (pe_op op_add (pv 1) pe_int)) po_none)))), ?_⟩
  wp_walk using rRepT, tSeq, tIfS, inV, eqV
  refine ⟨_, ha, ?_, fun r1 H1 s1 hr1 => ⟨_, s1 _ _ ha, ?_, fun r3 H3 s3 hr3 => ⟨_, s3 _ _ hr1, _, hr3, ?_, fun r4 H4 s4 hr4 => ?_⟩⟩⟩
  · rw [len_map]; intro z; have z2 := z.2; simp only [HT.sIx] at z2; rw [if_neg (by omega)] at z2; omega
  · rw [len_map]; intro z; have z1 := z.1; simp only [HT.sIx] at z1; rw [if_neg (by omega)] at z1; omega
  · rw [show (k : Int) + 1 = ((k + 1 : Nat) : Int) by omega, cut_lo (by omega), cut_hi (by omega)]; simp only [List.length_map, List.length_take, List.length_drop]; exact small (by omega)
  rw [show (k : Int) + 1 = ((k + 1 : Nat) : Int) by omega, cut_lo (by omega), cut_hi (by omega)] at hr4
  refine q _ _ (s1.trans (s3.trans s4)) ?_
  rw [hr4, List.eraseIdx_eq_take_drop_succ, List.map_append]
end
abbrev saskside : Stmt := top 18
section
variable {P : Program} {w : World} {K : PySem.W.Frag} {mg : Str → Option Value} {base : Heap} {f : Addr} {fd : FuncData}
theorem scaskside : FnScope ["sides", "side"] ["sides", "side"] (defScope saskside) := ⟨rfl, rfl, rfl, by decide +kernel, rfl, by decide +kernel, by decide +kernel⟩
theorem okaskside (F : Fun K "ask_side" "ask_side" saskside f fd) {CNoSide : Addr} (nNoSide : PySem.W.nsIn K mainGlobals "NoSide" = some (some (.ref CNoSide))) (zlen : mg "len" = none) (xNoSide : PySem.W.excIn K CNoSide [.type "ValueError", .type "Exception", .type "BaseException", .type "object"] "ValueError.__new__" = true) : FnOk P w K mg base (CX1 P w) (1) f fd ["sides", "side"] ((spask CNoSide)) := by
  have sc := scaskside
  refine F.okX sc (fun vs H Q E h => ?_) (fun cdv A outer s H vs Q E hr h => ?_)
  · obtain ⟨a, ns, side, rfl, _⟩ := h; rfl
  obtain ⟨a, ns, side, rfl, ha, q1, q2⟩ := h
  refine ⟨_, (pss_one (ps_if (pw_or (pt_cmpR op_lt (pv 1) pe_int (nomark _)) (pw_or1 (pt_cmpR op_ge (pv 1) (pe_callB call_len_seq (by rfl) zlen PySem.boot_len (pa_cons (pv 0) pa_nil)) (nomark _)))).pt (pss_one (ps_raise PySem.F.excBase_ValueError rfl (by rfl) nNoSide xNoSide raises1 (pa_cons pe_str pa_nil))) pss_nil)), ?_⟩
  wp_walk using rRepT, tSeq, tIfS, inV, eqV
  unfold off at q1 q2
  by_cases c1 : side < 0
  · rw [if_pos c1]; exact ⟨small (by decide), q1 (.inl c1)⟩
  rw [if_neg c1]
  refine ⟨_, .inr (.of ha), ?_⟩
  rw [len_map]
  by_cases c2 : (ns.length : Int) ≤ side
  · rw [if_pos c2]; exact ⟨small (by decide), q1 (.inr c2)⟩
  rw [if_neg c2]
  exact q2 (by omega)
end
abbrev sturnedsides : Stmt := top 19
section
variable {P : Program} {w : World} {K : PySem.W.Frag} {mg : Str → Option Value} {base : Heap} {f : Addr} {fd : FuncData}
theorem scturnedsides : FnScope ["sides", "order"] ["sides", "order"] (defScope sturnedsides) := ⟨rfl, rfl, rfl, by decide +kernel, rfl, by decide +kernel, by decide +kernel⟩
theorem okturnedsides (F : Fun K "turned_sides" "turned_sides" sturnedsides f fd) {CNoSide : Addr} (nNoSide : PySem.W.nsIn K mainGlobals "NoSide" = some (some (.ref CNoSide))) (zsorted : mg "sorted" = none) (zlist : mg "list" = none) (zrange : mg "range" = none) (zlen : mg "len" = none) (ztuple : mg "tuple" = none) (xNoSide : PySem.W.excIn K CNoSide [.type "ValueError", .type "Exception", .type "BaseException", .type "object"] "ValueError.__new__" = true) : FnOk P w K mg base (CX1 P w) (1) f fd ["sides", "order"] ((spturnP CNoSide)) := by
  have sc := scturnedsides
  refine F.okX sc (fun vs H Q E h => ?_) (fun cdv A outer s H vs Q E hr h => ?_)
  · obtain ⟨a, b, ns, os, rfl, _⟩ := h; rfl
  obtain ⟨a, b, ns, os, rfl, ha, hb, h20, h21, q1, q2⟩ := h
  refine ⟨_, (pss_cons (ps_if (pt_cmpR (op_neL hr.units0) (pe_callB call_sortedI (by rfl) zsorted boot_sorted (pa_cons (pv 1) pa_nil)) (pe_callTy (call_listRng rfl) (by rfl) zlist boot_list (pa_cons (pe_callTy call_rangeV (by rfl) zrange boot_range (pa_cons (pe_callB call_len_seq (by rfl) zlen PySem.boot_len (pa_cons (pv 0) pa_nil)) pa_nil)) pa_nil)) (nomark _)) (pss_one (ps_raise PySem.F.excBase_ValueError rfl (by rfl) nNoSide xNoSide raises1 (pa_cons pe_str pa_nil))) pss_nil) (pss_one (ps_ret (pe_callTy call_tuple_of (by rfl) ztuple boot_tuple (pa_cons (pe_comp (own := ["side"]) (fv := ["sides"]) (js := [0]) rfl (pi_tup (pv 1)) rfl (by decide) rfl (by decide) (by first | exact fun _ _ h => h | exact cl_sub1 rfl | exact cl_sub2 rfl rfl | exact cl_sub3 rfl rfl rfl) (has_of (by rfl)) rfl (cap1 (by first | exact ⟨rfl, .inl rfl, .inl rfl⟩ | exact ⟨rfl, .inl rfl, .inr rfl⟩)) (fun _ _ _ _ => (pg_name (i := 0) (show (["side", "sides"] : List Str).Nodup by decide +kernel) rfl (Or.inl rfl))) (fun _ _ _ _ => (pe_ix ix_tupH (pv 1) (pv 0) (fun _ _ => rfl)))) pa_nil))))), ?_⟩
  wp_walk using rRepT, tSeq, tIfS, inV, eqV
  refine ⟨os, .inr (.of hb), by omega, fun ss pm pw l1 hl1 => ⟨_, .inr (.of (same_new hl1 _ _ _ ha)), fun r hr => ⟨ns.length, by rw [len_map]; rfl, by omega, fun l2 hl2 => ?_⟩⟩⟩
  have t1 := same_new hl1 (.lst (ss.map V.int))
  have t2 := t1.trans (same_new hr (.rng 0 (((ns.map V.int).length : Nat) : Int)))
  have t3 := t2.trans (same_new hl2 (.lst ((upL ns.length).map V.int)))
  refine ⟨_, .of (same_new hl2 _ _ _ (same_new hr _ _ _ upd_same)), _, .of upd_same, flat_ints _, flat_ints _, ?_⟩
  rw [eqVs_dec]
  by_cases c : ss = upL ns.length
  · have tk := (turn_sorted (n := ns.length) pm pw).mp c
    rw [decide_eq_true c, if_neg (by decide)]
    have ha3 := t3 _ _ ha
    have hb3 := t3 _ _ hb
    generalize upd (upd (upd H l1 (HO.lst (List.map V.int ss))) r (HO.rng 0 (((ns.map V.int).length : Nat) : Int))) l2 (HO.lst (List.map V.int (upL ns.length))) = H3 at *
    refine CompT.mk (xs := os.map V.int) (.of hb3) (fun i ys σ H' => H' = H3 ∧ i ≤ os.length ∧ ys = (turnL ns (os.take i)).map V.int ∧ ∃ y, σ = [y, some (.ref a)]) ⟨rfl, Nat.zero_le _, rfl, _, rfl⟩ (fun i ys σ H' _ h => by rw [h.1]; exact (.of hb3)) (fun i x ys σ H' e h => ?_) (fun ys σ H' h p hp => ?_)
    · obtain ⟨rfl, hi, rfl, y, rfl⟩ := h
      obtain ⟨o, rfl, ho⟩ := int_at e
      have il := (List.getElem?_eq_some_iff.mp ho).1
      have om := up_mem.mp (tk.subset (List.mem_of_getElem? ho))
      have e1 : (turnL ns (os.take (i + 1))).map V.int = (turnL ns (os.take i)).map V.int ++ [V.int (ns.getD o.toNat 0)] := by
        unfold turnL; rw [List.take_add_one, ho, List.map_append, List.map_append]; rfl
      have sm : ((turnL ns (os.take i)).map V.int).length < sizeLine := by unfold turnL; rw [List.length_map, List.length_map, List.length_take]; exact small1000 (by omega)
      wp_walk using rRepT, tSeq, tIfS, inV, eqV, e1
      exact ⟨sm, _, ha3, _, at_in om.1 om.2, il, rfl, _, rfl⟩
    · obtain ⟨rfl, hi, rfl, y, rfl⟩ := h
      rw [len_map, List.take_length]
      exact ⟨p, rfl, _, .inl ⟨.of upd_same, fun l hl => q2 tk _ _ (t3.trans ((same_new hp _).trans (same_new hl _))) upd_same⟩⟩
  · rw [decide_eq_false c, if_pos rfl]
    exact ⟨small (by decide), q1 (fun z => c ((turn_sorted pm pw).mpr z)) _ t3⟩
end
abbrev sflippedsides : Stmt := top 20
section
variable {P : Program} {w : World} {K : PySem.W.Frag} {mg : Str → Option Value} {base : Heap} {f : Addr} {fd : FuncData}
theorem scflippedsides : FnScope ["sides", "side"] ["sides", "side"] (defScope sflippedsides) := ⟨rfl, rfl, rfl, by decide +kernel, rfl, by decide +kernel, by decide +kernel⟩
theorem okflippedsides (F : Fun K "flipped_sides" "flipped_sides" sflippedsides f fd) {CNoSide : Addr} (nNoSide : PySem.W.nsIn K mainGlobals "NoSide" = some (some (.ref CNoSide))) (caskside : Callee P w K mg base (CX1 P w) (1) "ask_side" ["sides", "side"] (spask CNoSide)) : FnOk P w K mg base (CX1 P w) (2) f fd ["sides", "side"] ((spflip CNoSide)) := by
  have sc := scflippedsides
  refine F.okX sc (fun vs H Q E h => ?_) (fun cdv A outer s H vs Q E hr h => ?_)
  · obtain ⟨a, ns, side, rfl, _⟩ := h; rfl
  obtain ⟨a, ns, side, rfl, ha, q1, q2⟩ := h
  refine ⟨_, (pss_cons (ps_expr (pe_cal caskside hr (by rfl) passes1 (pa_cons (pv 0) (pa_cons (pv 1) pa_nil)))) (pss_one (ps_ret (pv 0)))), ?_⟩
  wp_walk using rRepT, tSeq, tIfS, inV, eqV, spask
  exact ⟨ns, ha, q1, q2⟩
end
abbrev scutsides : Stmt := top 21
section
variable {P : Program} {w : World} {K : PySem.W.Frag} {mg : Str → Option Value} {base : Heap} {f : Addr} {fd : FuncData}
theorem sccutsides : FnScope ["sides", "side", "first", "many", "step"] ["sides", "side", "first", "many", "step"] (defScope scutsides) := ⟨rfl, rfl, rfl, by decide +kernel, rfl, by decide +kernel, by decide +kernel⟩
theorem okcutsides (F : Fun K "cut_sides" "cut_sides" scutsides f fd) {CNoSide : Addr} (nNoSide : PySem.W.nsIn K mainGlobals "NoSide" = some (some (.ref CNoSide))) {CBeyond : Addr} (nBeyond : PySem.W.nsIn K mainGlobals "Beyond" = some (some (.ref CBeyond))) (caskside : Callee P w K mg base (CX1 P w) (1) "ask_side" ["sides", "side"] (spask CNoSide)) (cchangedat : Callee P w K mg base CX0 (1) "changed_at" ["row", "k", "number"] spchangedat) (xBeyond : PySem.W.excIn K CBeyond [.type "ValueError", .type "Exception", .type "BaseException", .type "object"] "ValueError.__new__" = true) : FnOk P w K mg base (CX1 P w) (2) f fd ["sides", "side", "first", "many", "step"] ((spcut CNoSide CBeyond)) := by
  have sc := sccutsides
  refine F.okX sc (fun vs H Q E h => ?_) (fun cdv A outer s H vs Q E hr h => ?_)
  · obtain ⟨a, ns, side, first, many, step, rfl, _⟩ := h; rfl
  obtain ⟨a, ns, side, first, many, step, rfl, ha, h63, m0, m1, q1, q2, q3⟩ := h
  refine ⟨_, (pss_cons (ps_expr (pe_cal caskside hr (by rfl) passes1 (pa_cons (pv 0) (pa_cons (pv 1) pa_nil)))) (pss_cons (ps_if (pw_or (pt_cmpR op_lt (pv 2) pe_int (nomark _)) (pw_or (pt_cmpR op_lt (pv 3) pe_int (nomark _)) (pw_or1 (pt_cmpR op_lt (pv 4) pe_int (nomark _))))).pt (pss_one (ps_raise PySem.F.excBase_ValueError rfl (by rfl) nBeyond xBeyond raises1 (pa_cons pe_str pa_nil))) pss_nil) (pss_cons (ps_if (pw_and (pt_cmpR op_gt (pv 3) pe_int (nomark _)) (pw_and1 (pt_cmpR op_ge (pe_op op_add (pv 2) (pe_op op_mul (pe_op op_sub (pv 3) pe_int) (pv 4))) (pe_ix ix_tupH (pv 0) (pv 1) (fun _ _ => rfl)) (nomark _)))).pt (pss_one (ps_raise PySem.F.excBase_ValueError rfl (by rfl) nBeyond xBeyond raises1 (pa_cons pe_str pa_nil))) pss_nil) (pss_one (ps_ret (pe_cal cchangedat hr (by rfl) pass0 (pa_cons (pv 0) (pa_cons (pv 1) (pa_cons (pv 3) pa_nil))))))))), ?_⟩
  wp_walk using rRepT, tSeq, tIfS, inV, eqV, spask, spchangedat
  refine ⟨ns, ha, q1, fun no => ?_⟩
  replace q2 := q2 no
  replace q3 := q3 no
  obtain ⟨k, rfl, hk⟩ := at_ok no
  unfold bad at q2 q3
  simp only [Int.toNat_natCast] at q2 q3
  by_cases c1 : first < 0
  · rw [if_pos c1]; exact ⟨small (by decide), q2 (.inl c1)⟩
  rw [if_neg c1]
  by_cases c2 : many < 0
  · rw [if_pos c2]; exact ⟨small (by decide), q2 (.inr (.inl c2))⟩
  rw [if_neg c2]
  by_cases c3 : step < 1
  · rw [if_pos c3]; exact ⟨small (by decide), q2 (.inr (.inr (.inl c3)))⟩
  rw [if_neg c3]
  by_cases c4 : 0 < many
  · rw [if_pos c4]
    refine ⟨.inl ⟨by omega, by omega⟩, _, ha, _, atI_ok hk, _, rfl, ?_⟩
    by_cases c5 : ns.getD k 0 ≤ first + (many - 1) * step
    · rw [if_pos c5]; exact ⟨small (by decide), q2 (.inr (.inr (.inr ⟨c4, c5⟩)))⟩
    rw [if_neg c5]
    exact ⟨ns, k, rfl, ha, by omega, hk, q3 (fun z => z.elim c1 fun z => z.elim c2 fun z => z.elim c3 fun z => c5 z.2)⟩
  · rw [if_neg c4]
    exact ⟨ns, k, rfl, ha, by omega, hk, q3 (fun z => z.elim c1 fun z => z.elim c2 fun z => z.elim c3 fun z => c4 z.1)⟩
end
abbrev sspreadsides : Stmt := top 22
section
variable {P : Program} {w : World} {K : PySem.W.Frag} {mg : Str → Option Value} {base : Heap} {f : Addr} {fd : FuncData}
theorem scspreadsides : FnScope ["sides", "side", "many"] ["sides", "side", "many"] (defScope sspreadsides) := ⟨rfl, rfl, rfl, by decide +kernel, rfl, by decide +kernel, by decide +kernel⟩
theorem okspreadsides (F : Fun K "spread_sides" "spread_sides" sspreadsides f fd) {CNoSide : Addr} (nNoSide : PySem.W.nsIn K mainGlobals "NoSide" = some (some (.ref CNoSide))) {CBeyond : Addr} (nBeyond : PySem.W.nsIn K mainGlobals "Beyond" = some (some (.ref CBeyond))) {CTooLarge : Addr} (nTooLarge : PySem.W.nsIn K mainGlobals "TooLarge" = some (some (.ref CTooLarge))) (caddedat : Callee P w K mg base CX0 (3) "added_at" ["row", "k", "number"] spaddedat) (callowed : Callee P w K mg base (CX1 P w) (3) "allowed" ["sides"] (spallowed CTooLarge)) (zlen : mg "len" = none) (xNoSide : PySem.W.excIn K CNoSide [.type "ValueError", .type "Exception", .type "BaseException", .type "object"] "ValueError.__new__" = true) (xBeyond : PySem.W.excIn K CBeyond [.type "ValueError", .type "Exception", .type "BaseException", .type "object"] "ValueError.__new__" = true) : FnOk P w K mg base (CX1 P w) (4) f fd ["sides", "side", "many"] ((spspr CNoSide CBeyond CTooLarge)) := by
  have sc := scspreadsides
  refine F.okX sc (fun vs H Q E h => ?_) (fun cdv A outer s H vs Q E hr h => ?_)
  · obtain ⟨a, ns, side, many, rfl, _⟩ := h; rfl
  obtain ⟨a, ns, side, many, rfl, ha, hs, h20, hm, q1, q2, q3, q4⟩ := h
  refine ⟨_, (pss_cons (ps_if (pw_or (pt_cmpR op_lt (pv 1) pe_int (nomark _)) (pw_or1 (pt_cmpR op_gt (pv 1) (pe_callB call_len_seq (by rfl) zlen PySem.boot_len (pa_cons (pv 0) pa_nil)) (nomark _)))).pt (pss_one (ps_raise PySem.F.excBase_ValueError rfl (by rfl) nNoSide xNoSide raises1 (pa_cons pe_str pa_nil))) pss_nil) (pss_cons (ps_if (pt_cmpR op_lt (pv 2) pe_int (nomark _)) (pss_one (ps_raise PySem.F.excBase_ValueError rfl (by rfl) nBeyond xBeyond raises1 (pa_cons pe_str pa_nil))) pss_nil) (pss_one (ps_ret (pe_cal callowed hr (by rfl) passes1 (pa_cons (pe_cal caddedat hr (by rfl) pass0 (pa_cons (pv 0) (pa_cons (pv 1) (pa_cons (pv 2) pa_nil)))) pa_nil)))))), ?_⟩
  wp_walk using rRepT, tSeq, tIfS, inV, eqV, spaddedat, spallowed
  unfold off1 at q1 q2 q3 q4
  by_cases c1 : side < 0
  · rw [if_pos c1]; exact ⟨small (by decide), q1 (.inl c1)⟩
  rw [if_neg c1]
  refine ⟨_, .inr (.of ha), ?_⟩
  rw [len_map]
  by_cases c2 : (ns.length : Int) < side
  · rw [if_pos c2]; exact ⟨small (by decide), q1 (.inr c2)⟩
  rw [if_neg c2]
  have no : ¬ (side < 0 ∨ (ns.length : Int) < side) := by omega
  by_cases c3 : many < 0
  · rw [if_pos c3]; exact ⟨small (by decide), q2 no c3⟩
  rw [if_neg c3]
  obtain ⟨k, rfl⟩ : ∃ k : Nat, side = k := ⟨side.toNat, by omega⟩
  refine ⟨ns, k, rfl, ha, by omega, fun H1 p s1 hp => ⟨_, hp, ins_ok hs (by omega) hm, by rw [ins_len]; omega, fun b H2 s2 => q3 no c3 b _ (s1.trans s2), fun b H2 s2 => q4 no c3 b _ _ (s1.trans s2) (s2 _ _ hp)⟩⟩
end
abbrev sledsides : Stmt := top 23
section
variable {P : Program} {w : World} {K : PySem.W.Frag} {mg : Str → Option Value} {base : Heap} {f : Addr} {fd : FuncData}
theorem scledsides : FnScope ["sides", "others"] ["sides", "others"] (defScope sledsides) := ⟨rfl, rfl, rfl, by decide +kernel, rfl, by decide +kernel, by decide +kernel⟩
theorem okledsides (F : Fun K "led_sides" "led_sides" sledsides f fd) {CUnlike : Addr} (nUnlike : PySem.W.nsIn K mainGlobals "Unlike" = some (some (.ref CUnlike))) (zlen : mg "len" = none) (xUnlike : PySem.W.excIn K CUnlike [.type "ValueError", .type "Exception", .type "BaseException", .type "object"] "ValueError.__new__" = true) : FnOk P w K mg base (CX1 P w) (1) f fd ["sides", "others"] ((spled CUnlike)) := by
  have sc := scledsides
  refine F.okX sc (fun vs H Q E h => ?_) (fun cdv A outer s H vs Q E hr h => ?_)
  · obtain ⟨a, b, ns, ms, rfl, _⟩ := h; rfl
  obtain ⟨a, b, ns, ms, rfl, ha, hb, q1, q2⟩ := h
  refine ⟨_, (pss_cons (ps_if (pt_cmpR (op_neT hr.units0) (pe_slice sl_tupA (pv 1) po_none (po_some (pe_callB call_len_seq (by rfl) zlen PySem.boot_len (pa_cons (pv 0) pa_nil)))) (pv 0) (nomark _)) (pss_one (ps_raise PySem.F.excBase_ValueError rfl (by rfl) nUnlike xUnlike raises1 (pa_cons pe_str pa_nil))) pss_nil) (pss_one (ps_ret (pv 1)))), ?_⟩
  wp_walk using rRepT, tSeq, tIfS, inV, eqV
  refine ⟨_, .inr (.of ha), _, hb, fun r H1 s1 hr1 => ?_⟩
  rw [len_map, cut_any] at hr1
  refine ⟨_, .of hr1, _, .of (s1 _ _ ha), flat_ints _, flat_ints _, ?_⟩
  rw [eqVs_dec]
  by_cases c : ms.take ns.length = ns
  · rw [if_neg (by simp [c])]; exact q2 c _ s1
  · rw [if_pos (by simp [c])]; exact ⟨small (by decide), q1 c _ s1⟩
end
abbrev sfoldedsides : Stmt := top 24
section
variable {P : Program} {w : World} {K : PySem.W.Frag} {mg : Str → Option Value} {base : Heap} {f : Addr} {fd : FuncData}
theorem scfoldedsides : FnScope ["sides", "side"] ["sides", "side"] (defScope sfoldedsides) := ⟨rfl, rfl, rfl, by decide +kernel, rfl, by decide +kernel, by decide +kernel⟩
theorem okfoldedsides (F : Fun K "folded_sides" "folded_sides" sfoldedsides f fd) {CNoSide : Addr} (nNoSide : PySem.W.nsIn K mainGlobals "NoSide" = some (some (.ref CNoSide))) (caskside : Callee P w K mg base (CX1 P w) (1) "ask_side" ["sides", "side"] (spask CNoSide)) (cdroppedat : Callee P w K mg base CX0 (1) "dropped_at" ["row", "k"] spdroppedat) : FnOk P w K mg base (CX1 P w) (2) f fd ["sides", "side"] ((spfolded CNoSide)) := by
  have sc := scfoldedsides
  refine F.okX sc (fun vs H Q E h => ?_) (fun cdv A outer s H vs Q E hr h => ?_)
  · obtain ⟨a, ns, side, rfl, _⟩ := h; rfl
  obtain ⟨a, ns, side, rfl, ha, h63, q1, q2⟩ := h
  refine ⟨_, (pss_cons (ps_expr (pe_cal caskside hr (by rfl) passes1 (pa_cons (pv 0) (pa_cons (pv 1) pa_nil)))) (pss_one (ps_ret (pe_cal cdroppedat hr (by rfl) pass0 (pa_cons (pv 0) (pa_cons (pv 1) pa_nil)))))), ?_⟩
  wp_walk using rRepT, tSeq, tIfS, inV, eqV, spask, spdroppedat
  refine ⟨ns, ha, q1, fun no => ?_⟩
  obtain ⟨k, rfl, hk⟩ := at_ok no
  exact ⟨ns, k, rfl, ha, by omega, hk, q2 no⟩
end
abbrev splainview : Stmt := top 26
def spplainview : Sp := fun vs H Q _ => ∃ (a : Addr) (ns : List Int), vs = [.ref a] ∧ H a = some (.tup (ns.map V.int)) ∧ sdOk ns ∧ ns.length ≤ 63 ∧ ∀ H' v ta, Same H H' → H' v = some (.tup [.ref a, .int 0, .ref ta]) → H' ta = some (.tup ((stL ns ns.length).reverse.map V.int)) → Q (.ref v) H'
section
variable {P : Program} {w : World} {K : PySem.W.Frag} {mg : Str → Option Value} {base : Heap} {f : Addr} {fd : FuncData}
theorem scplainview : FnScope ["sides"] ["sides"] (defScope splainview) := ⟨rfl, rfl, rfl, by decide +kernel, rfl, by decide +kernel, by decide +kernel⟩
theorem okplainview (F : Fun K "plain_view" "plain_view" splainview f fd) (cstridesof : Callee P w K mg base CX0 (1) "strides_of" ["sides"] spstridesof) : FnOk P w K mg base CX0 (2) f fd ["sides"] (spplainview) := by
  have sc := scplainview
  refine F.ok sc (fun vs H Q E h => ?_) (fun cdv A outer s H vs Q E hr h => ?_)
  · obtain ⟨a, ns, rfl, _⟩ := h; rfl
  obtain ⟨a, ns, rfl, ha, hs, h63, q⟩ := h
  refine ⟨_, (pss_one (ps_ret (pe_tup (pa_cons (pv 0) (pa_cons pe_int (pa_cons (pe_cal cstridesof hr (by rfl) pass0 (pa_cons (pv 0) pa_nil)) pa_nil)))))), ?_⟩
  wp_walk using rRepT, tSeq, tIfS, inV, eqV, spstridesof
  exact ⟨ns, ha, hs, h63, fun H1 p s1 hp => ⟨small (by decide), fun v hv => q _ v p (s1.trans (same_new hv _)) upd_same (same_new hv _ _ _ hp)⟩⟩
end
abbrev sturnedview : Stmt := top 27
section
variable {P : Program} {w : World} {K : PySem.W.Frag} {mg : Str → Option Value} {base : Heap} {f : Addr} {fd : FuncData}
theorem scturnedview : FnScope ["view", "order", "sides", "strides", "own"] ["view", "order"] (defScope sturnedview) := ⟨rfl, rfl, rfl, by decide +kernel, rfl, by decide +kernel, by decide +kernel⟩
theorem okturnedview (F : Fun K "turned_view" "turned_view" sturnedview f fd) {CNoSide : Addr} (nNoSide : PySem.W.nsIn K mainGlobals "NoSide" = some (some (.ref CNoSide))) (cturnedsides : Callee P w K mg base (CX1 P w) (2) "turned_sides" ["sides", "order"] (spturnP CNoSide)) (ztuple : mg "tuple" = none) (zlen : mg "len" = none) : FnOk P w K mg base (CX1 P w) (3) f fd ["view", "order"] ((spvturn CNoSide)) := by
  have sc := scturnedview
  refine F.okX sc (fun vs H Q E h => ?_) (fun cdv A outer s H vs Q E hr h => ?_)
  · obtain ⟨v, b, ns, ss, os, st, rfl, _⟩ := h; rfl
  obtain ⟨v, b, ns, ss, os, st, rfl, ⟨sa, ta, hv, ha, ht⟩, ⟨sd, l6, ll, l10⟩, hb, o20, q1, q2⟩ := h
  refine ⟨_, (pss_cons (ps_set (i := 2) sc.nd rfl (by first | exact Or.inl rfl | exact Or.inr rfl) (pe_cal cturnedsides hr (by rfl) passes1 (pa_cons (pe_ix ix_tupH (pv 0) pe_int (fun _ _ => rfl)) (pa_cons (pv 1) pa_nil)))) (pss_cons (ps_set (i := 3) sc.nd rfl (by first | exact Or.inl rfl | exact Or.inr rfl) (pe_ix ix_tupH (pv 0) pe_int (fun _ _ => rfl))) (pss_cons (ps_set (i := 4) sc.nd rfl (by first | exact Or.inl rfl | exact Or.inr rfl) (pe_callTy call_tuple_of (by rfl) ztuple boot_tuple (pa_cons (pe_comp (own := ["side"]) (fv := ["strides"]) (js := [3]) rfl (pi_tup (pv 1)) rfl (by decide) rfl (by decide) (by first | exact fun _ _ h => h | exact cl_sub1 rfl | exact cl_sub2 rfl rfl | exact cl_sub3 rfl rfl rfl) (has_of (by rfl)) rfl (cap1 (by first | exact ⟨rfl, .inl rfl, .inl rfl⟩ | exact ⟨rfl, .inl rfl, .inr rfl⟩)) (fun _ _ _ _ => (pg_name (i := 0) (show (["side", "strides"] : List Str).Nodup by decide +kernel) rfl (Or.inl rfl))) (fun _ _ _ _ => (pe_ix ix_tupH (pv 1) (pv 0) (fun _ _ => rfl)))) pa_nil))) (pss_one (ps_ret (pe_tup (pa_cons (pv 2) (pa_cons (pe_ix ix_tupH (pv 0) pe_int (fun _ _ => rfl)) (pa_cons (pe_op op_catS (pv 4) (pe_slice sl_tupA (pv 3) (po_some (pe_callB call_len_seq (by rfl) zlen PySem.boot_len (pa_cons (pv 2) pa_nil))) po_none)) pa_nil))))))))), ?_⟩
  simp only [L2.start, List.length_cons, List.length_nil, List.replicate, List.cons_append, List.nil_append, Nat.reduceSub, Nat.reduceAdd, List.map_cons, List.map_nil]
  wp_walk using rRepT, tSeq, tIfS, inV, eqV, spturnP
  refine ⟨_, hv, _, atI_nat (j := 0) rfl, _, rfl, ns, ha, os, hb, by omega, o20, q1, fun tk G p s hp => ?_⟩
  have q2 := q2 tk
  have hv1 := s _ _ hv
  have hb1 := s _ _ hb
  have ht1 := s _ _ ht
  refine ⟨_, hv1, _, atI_nat (j := 2) rfl, ?_⟩
  refine CompT.mk (xs := os.map V.int) (.of hb1) (fun i ys σ G' => G' = G ∧ i ≤ os.length ∧ ys = (turnL ss (os.take i)).map V.int ∧ ∃ y, σ = [y, some (.ref ta)]) ⟨rfl, Nat.zero_le _, rfl, _, rfl⟩ (fun i ys σ G' _ h => by rw [h.1]; exact .of hb1) (fun i x ys σ G' e h => ?_) (fun ys σ G' h p1 hp1 => ?_)
  · obtain ⟨rfl, hi, rfl, y, rfl⟩ := h
    obtain ⟨o, rfl, ho⟩ := int_at e
    have il := (List.getElem?_eq_some_iff.mp ho).1
    have om := up_mem.mp (tk.subset (List.mem_of_getElem? ho))
    have e1 : (turnL ss (os.take (i + 1))).map V.int = (turnL ss (os.take i)).map V.int ++ [V.int (ss.getD o.toNat 0)] := by
      unfold turnL; rw [List.take_add_one, ho, List.map_append, List.map_append]; rfl
    have sm : ((turnL ss (os.take i)).map V.int).length < sizeLine := by unfold turnL; rw [List.length_map, List.length_map, List.length_take]; exact small1000 (by omega)
    wp_walk using rRepT, tSeq, tIfS, inV, eqV, e1
    exact ⟨sm, _, ht1, _, at_in om.1 (by omega), il, rfl, _, rfl⟩
  · obtain ⟨rfl, hi, rfl, y, rfl⟩ := h
    rw [len_map, List.take_length]
    refine ⟨p1, rfl, _, .inl ⟨.of upd_same, fun l hl => ?_⟩⟩
    have k1 := (same_new hp1 (.lst ((turnL ss os).map V.int))).trans (same_new hl (.tup ((turnL ss os).map V.int)))
    have pl := tk.length_eq
    rw [up_len] at pl
    refine ⟨_, k1 _ _ hv1, _, atI_nat (j := 1) rfl, _, .inr (.of (k1 _ _ hp)), ?_⟩
    have tl : (List.map V.int (turnL ns os)).length = ns.length := by unfold turnL; rw [List.length_map, List.length_map, pl]
    rw [tl]
    refine ⟨_, rfl, _, k1 _ _ ht1, fun r G2 s2 hr => ?_⟩
    rw [cut_anyH] at hr
    refine ⟨_, s2 _ _ upd_same, _, hr, small (by unfold turnL; simp only [List.length_map, List.length_drop]; omega), fun r2 G3 s3 hr2 => ⟨small (by decide), fun p3 hp3 => ?_⟩⟩
    have k3 := k1.trans (s2.trans (s3.trans (same_new hp3 (.tup [V.ref p, V.int st, V.ref r2]))))
    exact q2 _ p3 (s.trans k3) ⟨p, r2, upd_same, k3 _ _ hp, by rw [same_new hp3 _ _ _ hr2, List.map_append]⟩
end
abbrev sflippedview : Stmt := top 28
section
variable {P : Program} {w : World} {K : PySem.W.Frag} {mg : Str → Option Value} {base : Heap} {f : Addr} {fd : FuncData}
theorem scflippedview : FnScope ["view", "side", "sides", "stride", "start"] ["view", "side"] (defScope sflippedview) := ⟨rfl, rfl, rfl, by decide +kernel, rfl, by decide +kernel, by decide +kernel⟩
theorem okflippedview (F : Fun K "flipped_view" "flipped_view" sflippedview f fd) {CNoSide : Addr} (nNoSide : PySem.W.nsIn K mainGlobals "NoSide" = some (some (.ref CNoSide))) (cflippedsides : Callee P w K mg base (CX1 P w) (2) "flipped_sides" ["sides", "side"] (spflip CNoSide)) (cchangedat : Callee P w K mg base CX0 (2) "changed_at" ["row", "k", "number"] spchangedat) : FnOk P w K mg base (CX1 P w) (3) f fd ["view", "side"] ((spvflip CNoSide)) := by
  have sc := scflippedview
  refine F.okX sc (fun vs H Q E h => ?_) (fun cdv A outer s H vs Q E hr h => ?_)
  · obtain ⟨v, ns, ss, st, side, rfl, _⟩ := h; rfl
  obtain ⟨v, ns, ss, st, side, rfl, ⟨sa, ta, hv, ha, ht⟩, ⟨sd, l6, ll, l10⟩, q1, q2⟩ := h
  refine ⟨_, (pss_cons (ps_set (i := 2) sc.nd rfl (by first | exact Or.inl rfl | exact Or.inr rfl) (pe_cal cflippedsides hr (by rfl) passes1 (pa_cons (pe_ix ix_tupH (pv 0) pe_int (fun _ _ => rfl)) (pa_cons (pv 1) pa_nil)))) (pss_cons (ps_set (i := 3) sc.nd rfl (by first | exact Or.inl rfl | exact Or.inr rfl) (pe_ix ix_tupH (pe_ix ix_tupH (pv 0) pe_int (fun _ _ => rfl)) (pv 1) (fun _ _ => rfl))) (pss_cons (ps_set (i := 4) sc.nd rfl (by first | exact Or.inl rfl | exact Or.inr rfl) (pe_op op_add (pe_ix ix_tupH (pv 0) pe_int (fun _ _ => rfl)) (pe_op op_mul (pe_op op_sub (pe_ix ix_tupH (pv 2) (pv 1) (fun _ _ => rfl)) pe_int) (pv 3)))) (pss_one (ps_ret (pe_tup (pa_cons (pv 2) (pa_cons (pv 4) (pa_cons (pe_cal cchangedat hr (by rfl) pass0 (pa_cons (pe_ix ix_tupH (pv 0) pe_int (fun _ _ => rfl)) (pa_cons (pv 1) (pa_cons (pe_un un_neg (pv 3)) pa_nil)))) pa_nil))))))))), ?_⟩
  simp only [L2.start, List.length_cons, List.length_nil, List.replicate, List.cons_append, List.nil_append, Nat.reduceSub, Nat.reduceAdd, List.map_cons, List.map_nil]
  wp_walk using rRepT, tSeq, tIfS, inV, eqV, spflip, spchangedat
  refine ⟨_, hv, _, atI_nat (j := 0) rfl, _, rfl, ns, ha, q1, fun no => ?_⟩
  obtain ⟨k, rfl, kl⟩ := side_nat no
  have q2 := q2 no
  simp only [Int.toNat_natCast] at q2
  have nk := sd _ (getD_memI kl)
  refine ⟨_, hv, _, atI_nat (j := 2) rfl, _, rfl, _, ht, _, at_side (by omega), _, hv, _, atI_nat (j := 1) rfl, _, ha, _, at_side kl, _, rfl, _, rfl, .inl ⟨by omega, by omega⟩, _, rfl, ?_⟩
  exact ⟨_, hv, _, atI_nat (j := 2) rfl, _, rfl, _, rfl, ss, k, rfl, ht, by omega, by omega, fun G p s hp => ⟨small (by decide), fun p1 hp1 => q2 _ p1 (s.trans (same_new hp1 _)) ⟨sa, p, upd_same, same_new hp1 _ _ _ (s _ _ ha), same_new hp1 _ _ _ hp⟩⟩⟩
end
abbrev scutview : Stmt := top 29
section
variable {P : Program} {w : World} {K : PySem.W.Frag} {mg : Str → Option Value} {base : Heap} {f : Addr} {fd : FuncData}
theorem sccutview : FnScope ["view", "side", "first", "many", "step", "sides", "stride"] ["view", "side", "first", "many", "step"] (defScope scutview) := ⟨rfl, rfl, rfl, by decide +kernel, rfl, by decide +kernel, by decide +kernel⟩
theorem okcutview (F : Fun K "cut_view" "cut_view" scutview f fd) {CNoSide : Addr} (nNoSide : PySem.W.nsIn K mainGlobals "NoSide" = some (some (.ref CNoSide))) {CBeyond : Addr} (nBeyond : PySem.W.nsIn K mainGlobals "Beyond" = some (some (.ref CBeyond))) (ccutsides : Callee P w K mg base (CX1 P w) (2) "cut_sides" ["sides", "side", "first", "many", "step"] (spcut CNoSide CBeyond)) (cchangedat : Callee P w K mg base CX0 (2) "changed_at" ["row", "k", "number"] spchangedat) : FnOk P w K mg base (CX1 P w) (3) f fd ["view", "side", "first", "many", "step"] ((spvcut CNoSide CBeyond)) := by
  have sc := sccutview
  refine F.okX sc (fun vs H Q E h => ?_) (fun cdv A outer s H vs Q E hr h => ?_)
  · obtain ⟨v, ns, ss, st, side, first, many, step, rfl, _⟩ := h; rfl
  obtain ⟨v, ns, ss, st, side, first, many, step, rfl, ⟨sa, ta, hv, ha, ht⟩, ⟨sd, l6, ll, l10⟩, hf, hg, m0, m1, q1, q2, q3⟩ := h
  refine ⟨_, (pss_cons (ps_set (i := 5) sc.nd rfl (by first | exact Or.inl rfl | exact Or.inr rfl) (pe_cal ccutsides hr (by rfl) passes1 (pa_cons (pe_ix ix_tupH (pv 0) pe_int (fun _ _ => rfl)) (pa_cons (pv 1) (pa_cons (pv 2) (pa_cons (pv 3) (pa_cons (pv 4) pa_nil))))))) (pss_cons (ps_set (i := 6) sc.nd rfl (by first | exact Or.inl rfl | exact Or.inr rfl) (pe_ix ix_tupH (pe_ix ix_tupH (pv 0) pe_int (fun _ _ => rfl)) (pv 1) (fun _ _ => rfl))) (pss_one (ps_ret (pe_tup (pa_cons (pv 5) (pa_cons (pe_op op_add (pe_ix ix_tupH (pv 0) pe_int (fun _ _ => rfl)) (pe_op op_mul (pv 2) (pv 6))) (pa_cons (pe_cal cchangedat hr (by rfl) pass0 (pa_cons (pe_ix ix_tupH (pv 0) pe_int (fun _ _ => rfl)) (pa_cons (pv 1) (pa_cons (pe_op op_mul (pv 6) (pv 4)) pa_nil)))) pa_nil)))))))), ?_⟩
  simp only [L2.start, List.length_cons, List.length_nil, List.replicate, List.cons_append, List.nil_append, Nat.reduceSub, Nat.reduceAdd, List.map_cons, List.map_nil]
  wp_walk using rRepT, tSeq, tIfS, inV, eqV, spcut, spchangedat
  refine ⟨_, hv, _, atI_nat (j := 0) rfl, _, rfl, ns, ha, by omega, m0, m1, q1, q2, fun no nb G p s hp => ?_⟩
  have q3 := q3 no nb
  obtain ⟨k, rfl, kl⟩ := side_nat no
  simp only [Int.toNat_natCast] at q3 hp
  have hv1 := s _ _ hv
  refine ⟨_, hv1, _, atI_nat (j := 2) rfl, _, rfl, _, s _ _ ht, _, at_side (by omega), _, hv1, _, atI_nat (j := 1) rfl, _, rfl, .inl ⟨hf.1, hf.2⟩, _, rfl, ?_⟩
  exact ⟨_, hv1, _, atI_nat (j := 2) rfl, _, rfl, .inr ⟨hg.1, hg.2⟩, _, rfl, ss, k, rfl, s _ _ ht, by omega, by omega, fun G' p' s' hp' => ⟨small (by decide), fun p1 hp1 => q3 _ p1 (s.trans (s'.trans (same_new hp1 _))) ⟨p, p', upd_same, same_new hp1 _ _ _ (s' _ _ hp), same_new hp1 _ _ _ hp'⟩⟩⟩
end
abbrev sspreadview : Stmt := top 30
section
variable {P : Program} {w : World} {K : PySem.W.Frag} {mg : Str → Option Value} {base : Heap} {f : Addr} {fd : FuncData}
theorem scspreadview : FnScope ["view", "side", "many", "sides"] ["view", "side", "many"] (defScope sspreadview) := ⟨rfl, rfl, rfl, by decide +kernel, rfl, by decide +kernel, by decide +kernel⟩
theorem okspreadview (F : Fun K "spread_view" "spread_view" sspreadview f fd) {CNoSide : Addr} (nNoSide : PySem.W.nsIn K mainGlobals "NoSide" = some (some (.ref CNoSide))) {CBeyond : Addr} (nBeyond : PySem.W.nsIn K mainGlobals "Beyond" = some (some (.ref CBeyond))) {CTooLarge : Addr} (nTooLarge : PySem.W.nsIn K mainGlobals "TooLarge" = some (some (.ref CTooLarge))) (cspreadsides : Callee P w K mg base (CX1 P w) (4) "spread_sides" ["sides", "side", "many"] (spspr CNoSide CBeyond CTooLarge)) (caddedat : Callee P w K mg base CX0 (4) "added_at" ["row", "k", "number"] spaddedat) : FnOk P w K mg base (CX1 P w) (5) f fd ["view", "side", "many"] ((spvspread CNoSide CBeyond CTooLarge)) := by
  have sc := scspreadview
  refine F.okX sc (fun vs H Q E h => ?_) (fun cdv A outer s H vs Q E hr h => ?_)
  · obtain ⟨v, ns, ss, st, side, many, rfl, _⟩ := h; rfl
  obtain ⟨v, ns, ss, st, side, many, rfl, ⟨sa, ta, hv, ha, ht⟩, ⟨sd, l6, ll, l10⟩, m1, q1, q2, q3, q4⟩ := h
  refine ⟨_, (pss_cons (ps_set (i := 3) sc.nd rfl (by first | exact Or.inl rfl | exact Or.inr rfl) (pe_cal cspreadsides hr (by rfl) passes1 (pa_cons (pe_ix ix_tupH (pv 0) pe_int (fun _ _ => rfl)) (pa_cons (pv 1) (pa_cons (pv 2) pa_nil))))) (pss_one (ps_ret (pe_tup (pa_cons (pv 3) (pa_cons (pe_ix ix_tupH (pv 0) pe_int (fun _ _ => rfl)) (pa_cons (pe_cal caddedat hr (by rfl) pass0 (pa_cons (pe_ix ix_tupH (pv 0) pe_int (fun _ _ => rfl)) (pa_cons (pv 1) (pa_cons pe_int pa_nil)))) pa_nil))))))), ?_⟩
  simp only [L2.start, List.length_cons, List.length_nil, List.replicate, List.cons_append, List.nil_append, Nat.reduceSub, Nat.reduceAdd, List.map_cons, List.map_nil]
  wp_walk using rRepT, tSeq, tIfS, inV, eqV, spspr, spaddedat
  refine ⟨_, hv, _, atI_nat (j := 0) rfl, _, rfl, ns, ha, sd, by omega, m1, q1, q2, q3, fun no nm nb G p s hp => ?_⟩
  have q4 := q4 no nm nb
  obtain ⟨k, rfl⟩ : ∃ k : Nat, side = k := ⟨side.toNat, by unfold off1 at no; omega⟩
  simp only [Int.toNat_natCast] at q4 hp
  have hv1 := s _ _ hv
  exact ⟨_, hv1, _, atI_nat (j := 1) rfl, _, hv1, _, atI_nat (j := 2) rfl, _, rfl, ss, k, rfl, s _ _ ht, by omega, fun G' p' s' hp' => ⟨small (by decide), fun p1 hp1 => q4 _ p1 (s.trans (s'.trans (same_new hp1 _))) ⟨p, p', upd_same, same_new hp1 _ _ _ (s' _ _ hp), same_new hp1 _ _ _ hp'⟩⟩⟩
end
abbrev sledview : Stmt := top 31
section
variable {P : Program} {w : World} {K : PySem.W.Frag} {mg : Str → Option Value} {base : Heap} {f : Addr} {fd : FuncData}
theorem scledview : FnScope ["view", "sides", "own", "strides", "more"] ["view", "sides"] (defScope sledview) := ⟨rfl, rfl, rfl, by decide +kernel, rfl, by decide +kernel, by decide +kernel⟩
theorem okledview (F : Fun K "led_view" "led_view" sledview f fd) {CUnlike : Addr} (nUnlike : PySem.W.nsIn K mainGlobals "Unlike" = some (some (.ref CUnlike))) (cledsides : Callee P w K mg base (CX1 P w) (2) "led_sides" ["sides", "others"] (spled CUnlike)) (zlen : mg "len" = none) : FnOk P w K mg base (CX1 P w) (3) f fd ["view", "sides"] ((spvled CUnlike)) := by
  have sc := scledview
  refine F.okX sc (fun vs H Q E h => ?_) (fun cdv A outer s H vs Q E hr h => ?_)
  · obtain ⟨v, b, ns, ss, ms, st, rfl, _⟩ := h; rfl
  obtain ⟨v, b, ns, ss, ms, st, rfl, ⟨sa, ta, hv, ha, ht⟩, ⟨sd, l6, ll, l10⟩, hb, m10, q1, q2⟩ := h
  refine ⟨_, (pss_cons (ps_expr (pe_cal cledsides hr (by rfl) passes1 (pa_cons (pe_ix ix_tupH (pv 0) pe_int (fun _ _ => rfl)) (pa_cons (pv 1) pa_nil)))) (pss_cons (ps_set (i := 2) sc.nd rfl (by first | exact Or.inl rfl | exact Or.inr rfl) (pe_callB call_len_seq (by rfl) zlen PySem.boot_len (pa_cons (pe_ix ix_tupH (pv 0) pe_int (fun _ _ => rfl)) pa_nil))) (pss_cons (ps_set (i := 3) sc.nd rfl (by first | exact Or.inl rfl | exact Or.inr rfl) (pe_ix ix_tupH (pv 0) pe_int (fun _ _ => rfl))) (pss_cons (ps_set (i := 4) sc.nd rfl (by first | exact Or.inl rfl | exact Or.inr rfl) (pe_op op_repT (pe_tup (pa_cons pe_int pa_nil)) (pe_op op_sub (pe_callB call_len_seq (by rfl) zlen PySem.boot_len (pa_cons (pv 1) pa_nil)) (pv 2)))) (pss_one (ps_ret (pe_tup (pa_cons (pv 1) (pa_cons (pe_ix ix_tupH (pv 0) pe_int (fun _ _ => rfl)) (pa_cons (pe_op op_catS (pe_op op_catS (pe_slice sl_tupA (pv 3) po_none (po_some (pv 2))) (pv 4)) (pe_slice sl_tupA (pv 3) (po_some (pv 2)) po_none)) pa_nil)))))))))), ?_⟩
  simp only [L2.start, List.length_cons, List.length_nil, List.replicate, List.cons_append, List.nil_append, Nat.reduceSub, Nat.reduceAdd, List.map_cons, List.map_nil]
  wp_walk using tSeq, tIfS, inV, eqV, spled
  refine ⟨_, hv, _, atI_nat (j := 0) rfl, _, rfl, ns, ha, ms, hb, q1, fun e G s => ?_⟩
  have q2 := q2 e
  have hv1 := s _ _ hv
  have nl : ns.length ≤ ms.length := by have := congrArg List.length e; rw [List.length_take] at this; omega
  refine ⟨_, hv1, _, atI_nat (j := 0) rfl, _, rfl, _, .inr (.of (s _ _ ha)), _, hv1, _, atI_nat (j := 2) rfl, small (by decide), fun p hp => ⟨_, .inr (.of (same_new hp _ _ _ (s _ _ hb))), ?_⟩⟩
  rw [len_map, len_map, show (ms.length : Int) - (ns.length : Int) = ((ms.length - ns.length : Nat) : Int) by omega]
  refine repT0 upd_same (by omega) fun r G2 s2 hr => ?_
  have k2 := s.trans ((same_new hp (.tup [V.int 0])).trans s2)
  refine ⟨_, k2 _ _ hv, _, atI_nat (j := 1) rfl, _, rfl, _, k2 _ _ ht, fun r1 G3 s3 hr1 => ?_⟩
  rw [cut_any] at hr1
  refine ⟨_, rfl, _, hr1, _, s3 _ _ hr, small (by simp only [List.length_map, List.length_take, rep0_len]; omega), fun r2 G4 s4 hr2 => ⟨_, rfl, _, (k2.trans (s3.trans s4)) _ _ ht, fun r3 G5 s5 hr3 => ?_⟩⟩
  rw [cut_anyH] at hr3
  refine ⟨_, s5 _ _ hr2, _, hr3, small (by simp only [List.length_append, List.length_map, List.length_take, List.length_drop, rep0_len]; omega), fun r4 G6 s6 hr4 => ⟨small (by decide), fun p7 hp7 => ?_⟩⟩
  have k6 := k2.trans (s3.trans (s4.trans (s5.trans (s6.trans (same_new hp7 (.tup [V.ref b, V.int st, V.ref r4]))))))
  exact q2 _ p7 k6 ⟨b, r4, upd_same, k6 _ _ hb, by rw [same_new hp7 _ _ _ hr4, List.map_append, List.map_append]⟩
end
abbrev sinnerview : Stmt := top 32
section
variable {P : Program} {w : World} {K : PySem.W.Frag} {mg : Str → Option Value} {base : Heap} {f : Addr} {fd : FuncData}
theorem scinnerview : FnScope ["view", "side", "sides", "strides"] ["view", "side"] (defScope sinnerview) := ⟨rfl, rfl, rfl, by decide +kernel, rfl, by decide +kernel, by decide +kernel⟩
theorem okinnerview (F : Fun K "inner_view" "inner_view" sinnerview f fd) {CNoSide : Addr} (nNoSide : PySem.W.nsIn K mainGlobals "NoSide" = some (some (.ref CNoSide))) (cfoldedsides : Callee P w K mg base (CX1 P w) (2) "folded_sides" ["sides", "side"] (spfolded CNoSide)) (caddedat : Callee P w K mg base CX0 (2) "added_at" ["row", "k", "number"] spaddedat) (cdroppedat : Callee P w K mg base CX0 (2) "dropped_at" ["row", "k"] spdroppedat) (zlen : mg "len" = none) : FnOk P w K mg base (CX1 P w) (3) f fd ["view", "side"] ((spvinner CNoSide)) := by
  have sc := scinnerview
  refine F.okX sc (fun vs H Q E h => ?_) (fun cdv A outer s H vs Q E hr h => ?_)
  · obtain ⟨v, ns, ss, st, side, rfl, _⟩ := h; rfl
  obtain ⟨v, ns, ss, st, side, rfl, ⟨sa, ta, hv, ha, ht⟩, ⟨sd, l6, ll, l10⟩, q1, q2⟩ := h
  refine ⟨_, (pss_cons (ps_set (i := 2) sc.nd rfl (by first | exact Or.inl rfl | exact Or.inr rfl) (pe_cal cfoldedsides hr (by rfl) passes1 (pa_cons (pe_ix ix_tupH (pv 0) pe_int (fun _ _ => rfl)) (pa_cons (pv 1) pa_nil)))) (pss_cons (ps_set (i := 3) sc.nd rfl (by first | exact Or.inl rfl | exact Or.inr rfl) (pe_ix ix_tupH (pv 0) pe_int (fun _ _ => rfl))) (pss_one (ps_ret (pe_tup (pa_cons (pv 2) (pa_cons (pe_ix ix_tupH (pv 0) pe_int (fun _ _ => rfl)) (pa_cons (pe_cal caddedat hr (by rfl) pass0 (pa_cons (pe_cal cdroppedat hr (by rfl) pass0 (pa_cons (pv 3) (pa_cons (pv 1) pa_nil))) (pa_cons (pe_callB call_len_seq (by rfl) zlen PySem.boot_len (pa_cons (pv 2) pa_nil)) (pa_cons (pe_ix ix_tupH (pv 3) (pv 1) (fun _ _ => rfl)) pa_nil)))) pa_nil)))))))), ?_⟩
  simp only [L2.start, List.length_cons, List.length_nil, List.replicate, List.cons_append, List.nil_append, Nat.reduceSub, Nat.reduceAdd, List.map_cons, List.map_nil]
  wp_walk using rRepT, tSeq, tIfS, inV, eqV, spfolded, spaddedat, spdroppedat
  refine ⟨_, hv, _, atI_nat (j := 0) rfl, _, rfl, ns, ha, by omega, q1, fun no G p s hp => ?_⟩
  have q2 := q2 no
  obtain ⟨k, rfl, kl⟩ := side_nat no
  simp only [Int.toNat_natCast] at q2 hp
  have hv1 := s _ _ hv
  refine ⟨_, hv1, _, atI_nat (j := 2) rfl, _, hv1, _, atI_nat (j := 1) rfl, _, rfl, ss, k, rfl, s _ _ ht, by omega, by omega, fun G2 p2 s2 hp2 => ?_⟩
  have el : ((ns.eraseIdx k).map V.int).length = ns.length - 1 := by rw [List.length_map, List.length_eraseIdx, if_pos kl]
  refine ⟨_, .inr (.of (s2 _ _ hp)), ?_⟩
  rw [el]
  exact ⟨_, rfl, _, s2 _ _ (s _ _ ht), _, at_side (by omega), ss.eraseIdx k, ns.length - 1, rfl, _, rfl, hp2, by rw [List.length_eraseIdx]; split <;> omega, fun G3 p3 s3 hp3 => ⟨small (by decide), fun p4 hp4 => q2 _ p4 (s.trans (s2.trans (s3.trans (same_new hp4 _)))) ⟨p, p3, upd_same, same_new hp4 _ _ _ (s3 _ _ (s2 _ _ hp)), same_new hp4 _ _ _ hp3⟩⟩⟩
end
abbrev sspotof : Stmt := top 33
def spspotof : Sp := fun vs H Q _ => ∃ (v b : Addr) (ns ss ms : List Int) (st : Int), vs = [.ref v, .ref b] ∧ VwAt H v ns st ss ∧ H b = some (.tup (ms.map V.int)) ∧ ms.length = ss.length ∧ ms.length ≤ 90 ∧ ns.length ≤ ms.length ∧ (∀ (i : Nat) m n, ms[i]? = some m → ns[i]? = some n → 0 ≤ m ∧ m < n) ∧ (∀ m ∈ ms, 0 ≤ m ∧ m ≤ 1000000) ∧ ∀ H', Same H H' → Q (.int (st + dotI ms ss)) H'
section
variable {P : Program} {w : World} {K : PySem.W.Frag} {mg : Str → Option Value} {base : Heap} {f : Addr} {fd : FuncData}
theorem scspotof : FnScope ["view", "at", "side", "coordinate"] ["view", "at"] (defScope sspotof) := ⟨rfl, rfl, rfl, by decide +kernel, rfl, by decide +kernel, by decide +kernel⟩
theorem okspotof (F : Fun K "spot_of" "spot_of" sspotof f fd) (zlen : mg "len" = none) (zzip : mg "zip" = none) (zsum : mg "sum" = none) : FnOk P w K mg base CX0 (2) f fd ["view", "at"] (spspotof) := by
  have sc := scspotof
  refine F.ok sc (fun vs H Q E h => ?_) (fun cdv A outer s H vs Q E hr h => ?_)
  · obtain ⟨v, b, ns, ss, ms, st, rfl, _⟩ := h; rfl
  obtain ⟨v, b, ns, ss, ms, st, rfl, ⟨sa, ta, hv, hsa, hta⟩, hb, hl, m90, nl, g, gb, q⟩ := h
  refine ⟨_, (pss_cons (ps_if (pt_cmpR op_ne (pe_callB call_len_seq (by rfl) zlen PySem.boot_len (pa_cons (pv 1) pa_nil)) (pe_callB call_len_seq (by rfl) zlen PySem.boot_len (pa_cons (pe_ix ix_tupH (pv 0) pe_int (fun _ _ => rfl)) pa_nil)) (nomark _)) (pss_one ps_never) pss_nil) (pss_cons (ps_for PassesOwn.never rfl (pi_zip (by rfl) zzip (pa_cons (pe_ix ix_tupH (pv 0) pe_int (fun _ _ => rfl)) (pa_cons (pv 1) pa_nil))) (pg_tupH (n := 2) (pg_tup rfl (pgs_cons (pg_name (i := 2) sc.nd rfl (Or.inl rfl)) (pgs_cons (pg_name (i := 3) sc.nd rfl (Or.inl rfl)) pgs_nil)))) (pss_one (ps_if (pw_or (pt_cmpR op_lt (pv 3) pe_int (nomark _)) (pw_or1 (pt_cmpR op_ge (pv 3) (pv 2) (nomark _)))).pt (pss_one ps_never) pss_nil))) (pss_one (ps_ret (pe_op op_add (pe_ix ix_tupH (pv 0) pe_int (fun _ _ => rfl)) (pe_callB (call_sumL rfl) (by rfl) zsum boot_sum (pa_cons (pe_comp0 (own := ["coordinate", "stride"]) rfl (pi_zip (by rfl) zzip (pa_cons (pv 1) (pa_cons (pe_ix ix_tupH (pv 0) pe_int (fun _ _ => rfl)) pa_nil))) (by decide) (by decide) rfl (by decide) (fun _ _ _ _ => (pg_tupH (n := 2) (pg_tup rfl (pgs_cons (pg_name (i := 0) (show (["coordinate", "stride"] : List Str).Nodup by decide +kernel) rfl (Or.inl rfl)) (pgs_cons (pg_name (i := 1) (show (["coordinate", "stride"] : List Str).Nodup by decide +kernel) rfl (Or.inl rfl)) pgs_nil))))) (fun _ _ _ _ => (pe_op op_mul (pv 0) (pv 1)))) pa_nil))))))), ?_⟩
  wp_walk using rRepT, tSeq, tIfS, inV, eqV
  refine ⟨_, .inr (.of hb), _, hv, _, atI_nat (j := 2) rfl, _, rfl, _, .inr (.of hta), ?_⟩
  rw [len_map, len_map, if_neg (by omega)]
  refine ⟨_, hv, _, atI_nat (j := 0) rfl, ?_⟩
  refine LoopZ.mk (xs := ns.map V.int) (ys := ms.map V.int) ns.length (by rw [len_map, len_map]; omega) (.of hsa) (.of hb) (fun i σ H' => Same H H' ∧ ∃ y2 y3, σ = [some (.ref v), some (.ref b), y2, y3]) ⟨Same.refl _, _, _, rfl⟩ (fun i σ H' _ h => ⟨.of (h.1 _ _ hsa), .of (h.1 _ _ hb)⟩) (fun i x y σ H' T hi ex ey h hT => ?_) (fun σ H' h => ?_)
  · obtain ⟨h1, y2, y3, rfl⟩ := h
    obtain ⟨n, rfl, hn⟩ := int_at ex
    obtain ⟨m, rfl, hm'⟩ := int_at ey
    have gi := g i m n hm' hn
    wp_walk using rRepT, tSeq, tIfS, inV, eqV
    rw [if_neg (Int.not_lt.mpr gi.1), if_neg (Int.not_le.mpr gi.2)]
    exact ⟨h1.trans (same_new hT _), _, rfl⟩
  · obtain ⟨h1, y2, y3, rfl⟩ := h
    wp_walk using rRepT, tSeq, tIfS, inV, eqV
    have hb1 := h1 _ _ hb
    have hta1 := h1 _ _ hta
    refine ⟨_, h1 _ _ hv, _, atI_nat (j := 1) rfl, _, h1 _ _ hv, _, atI_nat (j := 2) rfl, ?_⟩
    have lz : (List.zipWith (fun a b => a * b) ms ss).length = ss.length := by rw [List.length_zipWith, hl, Nat.min_self]
    refine CompZ.mk (xs := ms.map V.int) (ys := ss.map V.int) ss.length (by rw [len_map, len_map, hl, Nat.min_self]) (.of hb1) (.of hta1) (fun i zs σ H2 => Same H' H2 ∧ zs = ((List.zipWith (fun a b => a * b) ms ss).take i).map V.int ∧ ∃ y z, σ = [y, z]) ⟨Same.refl _, rfl, _, _, rfl⟩ (fun i zs σ H2 _ h => ⟨.of (h.1 _ _ hb1), .of (h.1 _ _ hta1)⟩) (fun i x y zs σ H2 T hi ex ey h hT => ?_) (fun zs σ H2 h q1 hq => ?_) (fun i zs σ H2 h => ?_)
    · obtain ⟨h3, rfl, y4, y5, rfl⟩ := h
      obtain ⟨m, rfl, hm'⟩ := int_at ex
      obtain ⟨t, rfl, ht⟩ := int_at ey
      have il := (List.getElem?_eq_some_iff.mp hm').1
      have nb := gb m (List.mem_of_getElem? hm')
      have ez : (List.zipWith (fun a b => a * b) ms ss)[i]? = some (m * t) := by rw [List.getElem?_zipWith, hm', ht]
      have et : ((List.zipWith (fun a b => a * b) ms ss).take (i + 1)).map V.int = ((List.zipWith (fun a b => a * b) ms ss).take i).map V.int ++ [V.int (m * t)] := by rw [List.take_add_one, ez, List.map_append]; rfl
      have sm : (((List.zipWith (fun a b => a * b) ms ss).take i).map V.int).length < sizeLine := by rw [List.length_map, List.length_take]; exact small1000 (by omega)
      refine ⟨sm, ?_⟩
      wp_walk using rRepT, tSeq, tIfS, inV, eqV, et
      exact ⟨.inl ⟨by omega, by omega⟩, h3.trans (same_new hT _), _, rfl⟩
    · obtain ⟨h3, rfl, y4, y5, rfl⟩ := h
      rw [List.take_of_length_le (by omega)]
      exact ⟨q1, rfl, _, .of upd_same, _, rfl, q _ (h1.trans (h3.trans (same_new hq _)))⟩
    · obtain ⟨h3, rfl, _⟩ := h
      rw [List.length_map, List.length_take]; exact small1000 (by omega)
end
abbrev slawsides : Stmt := top 35
def splawsides : Sp := fun vs H Q _ => ∃ (a : Addr) (rs : List Int), vs = [.ref a, .int 512] ∧ H a = some (.lst (rs.map V.int)) ∧ rs.length ≤ 6 ∧ ∀ H' p ms, Same H H' → fit ms → ms.length = rs.length → H' p = some (.tup (ms.map V.int)) → Q (.ref p) H'
section
variable {P : Program} {w : World} {K : PySem.W.Frag} {mg : Str → Option Value} {base : Heap} {f : Addr} {fd : FuncData}
theorem sclawsides : FnScope ["row", "room", "sides", "one", "side"] ["row", "room"] (defScope slawsides) := ⟨rfl, rfl, rfl, by decide +kernel, rfl, by decide +kernel, by decide +kernel⟩
theorem oklawsides (F : Fun K "_law_sides" "_law_sides" slawsides f fd) (zmin : mg "min" = none) (zmax : mg "max" = none) : FnOk P w K mg base CX0 (1) f fd ["row", "room"] (splawsides) := by
  have sc := sclawsides
  refine F.ok sc (fun vs H Q E h => ?_) (fun cdv A outer s H vs Q E hr h => ?_)
  · obtain ⟨a, rs, rfl, _⟩ := h; rfl
  obtain ⟨a, rs, rfl, ha, h4, q⟩ := h
  refine ⟨_, (pss_cons (ps_set (i := 2) sc.nd rfl (by first | exact Or.inl rfl | exact Or.inr rfl) (pe_tup pa_nil)) (pss_cons (ps_for PassesOwn.never rfl (pi_list (pe_slice sl_list (pv 0) po_none (po_some pe_int))) (pg_name (i := 3) sc.nd rfl (Or.inl rfl)) (pss_cons (ps_set (i := 4) sc.nd rfl (by first | exact Or.inl rfl | exact Or.inr rfl) (pe_op op_add pe_int (pe_op op_modN (pe_op op_fdiv (pv 3) pe_int) (pe_callB (call_min2 rfl) (by rfl) zmin boot_min (pa_cons (pv 1) (pa_cons pe_int pa_nil)))))) (pss_cons (ps_if (pt_cmpR op_eq (pe_op op_mod (pv 3) pe_int) pe_int (nomark _)) (pss_one (ps_set (i := 4) sc.nd rfl (by first | exact Or.inl rfl | exact Or.inr rfl) (pe_op op_modN (pe_op op_fdiv (pv 3) pe_int) (pe_op op_add (pe_callB (call_min2 rfl) (by rfl) zmin boot_min (pa_cons (pv 1) (pa_cons pe_int pa_nil))) pe_int)))) pss_nil) (pss_cons (ps_if (pt_cmpR op_eq (pe_op op_mod (pv 3) pe_int) pe_int (nomark _)) (pss_one (ps_set (i := 4) sc.nd rfl (by first | exact Or.inl rfl | exact Or.inr rfl) (pe_op op_add pe_int (pe_op op_modN (pe_op op_fdiv (pv 3) pe_int) (pv 1))))) pss_nil) (pss_cons (ps_set (i := 2) sc.nd rfl (by first | exact Or.inl rfl | exact Or.inr rfl) (pe_op op_catS (pv 2) (pe_tup (pa_cons (pv 4) pa_nil)))) (pss_one (ps_set (i := 1) sc.nd rfl (by first | exact Or.inl rfl | exact Or.inr rfl) (pe_op op_fdivW (pv 1) (pe_callB (call_max2 rfl) (by rfl) zmax boot_max (pa_cons pe_int (pa_cons (pv 4) pa_nil))))))))))) (pss_one (ps_ret (pv 2))))), ?_⟩
  wp_walk using rRepT, tSeq, tIfS, inV, eqV, rSlL
  refine ⟨small (by decide), fun p0 hp0 => ⟨_, .of (same_new hp0 _ _ _ ha), fun l hl => ?_⟩⟩
  have s0 := (same_new hp0 (.tup [])).trans (same_new hl (.lst (cutV (rs.map V.int) none (some 6))))
  have g0 := same_new hl (.lst (cutV (rs.map V.int) none (some 6))) _ _ (upd_same (H := H) (a := p0) (o := .tup []))
  have ec : cutV (rs.map V.int) none (some 6) = rs.map V.int := by
    have := cut_any rs 6
    rw [List.take_of_length_le (by omega)] at this
    exact this
  have gl : upd (upd H p0 (.tup [])) l (.lst (cutV (rs.map V.int) none (some 6))) l = some (.lst (rs.map V.int)) := by rw [upd_same, ec]
  generalize upd (upd H p0 (.tup [])) l (.lst (cutV (rs.map V.int) none (some 6))) = H0 at *
  refine LoopL.mk (xs := rs.map V.int) (.of gl) (fun i σ G => Same H0 G ∧ ∃ (p : Addr) (ms : List Int) (free : Int) (y3 y4 : Option V), σ = [some (.ref a), some (.int free), some (.ref p), y3, y4] ∧ grow ms free i ∧ G p = some (.tup (ms.map V.int)) ∧ i ≤ 6) ⟨Same.refl _, p0, [], 512, _, _, rfl, ⟨(fun n hn => nomatch hn), rfl, by decide, by decide, by decide, by decide⟩, g0, by omega⟩ (fun i σ G _ h => .of (h.1 _ _ gl)) (fun i x σ G ex h => ?_) (fun σ G h => ?_)
  · obtain ⟨sG, p, ms, free, y3, y4, rfl, hg, hp, i4⟩ := h
    obtain ⟨r, rfl, hr⟩ := int_at ex
    have il := (List.getElem?_eq_some_iff.mp hr).1
    have f0 := hg.2.2.1
    have f5 := hg.2.2.2.1
    have c3 : 0 < (if 3 < free then 3 else free) ∧ (if 3 < free then 3 else free) ≤ free := by split <;> omega
    simp only [gName, List.set_cons_succ, List.set_cons_zero]
    refine seq_with (fun σ G' => G' = G ∧ ∃ m : Int, 0 ≤ m ∧ m ≤ free ∧ σ = [some (.ref a), some (.int free), some (.ref p), some (.int r), some (.int m)]) ?_ (fun R hR => ?_)
    rotate_left
    · wp_walk using rRepT, tSeq, tIfS, inV, eqV
      have z0 := Int.fmod_nonneg_of_pos (r / 4) c3.1
      have z1 := Int.fmod_lt_of_pos (r / 4) c3.1
      exact ⟨by omega, hR _ _ ⟨rfl, _, by omega, by omega, rfl⟩⟩
    rintro σ1 G1 ⟨rfl, m1, a10, a11, rfl⟩
    refine seq_with (fun σ G' => G' = G1 ∧ ∃ m : Int, 0 ≤ m ∧ m ≤ free ∧ σ = [some (.ref a), some (.int free), some (.ref p), some (.int r), some (.int m)]) ?_ (fun R hR => ?_)
    rotate_left
    · wp_walk using rRepT, tSeq, tIfS, inV, eqV
      have z0 := Int.fmod_nonneg_of_pos (r / 4) (show 0 < (if 3 < free then 3 else free) + 1 by omega)
      have z1 := Int.fmod_lt_of_pos (r / 4) (show 0 < (if 3 < free then 3 else free) + 1 by omega)
      split
      · exact ⟨by omega, hR _ _ ⟨rfl, _, by omega, by omega, rfl⟩⟩
      · exact hR _ _ ⟨rfl, _, a10, a11, rfl⟩
    rintro σ2 G2 ⟨rfl, m2, a20, a21, rfl⟩
    refine seq_with (fun σ G' => G' = G2 ∧ ∃ m : Int, 0 ≤ m ∧ m ≤ free ∧ σ = [some (.ref a), some (.int free), some (.ref p), some (.int r), some (.int m)]) ?_ (fun R hR => ?_)
    rotate_left
    · wp_walk using rRepT, tSeq, tIfS, inV, eqV
      have z0 := Int.fmod_nonneg_of_pos (r / 4) (show 0 < free by omega)
      have z1 := Int.fmod_lt_of_pos (r / 4) (show 0 < free by omega)
      split
      · exact ⟨by omega, hR _ _ ⟨rfl, _, by omega, by omega, rfl⟩⟩
      · exact hR _ _ ⟨rfl, _, a20, a21, rfl⟩
    rintro σ3 G3 ⟨rfl, m, m0, m1, rfl⟩
    wp_walk using rRepT, tSeq, tIfS, inV, eqV
    refine ⟨small (by decide), fun p2 hp2 => ⟨_, same_new hp2 _ _ _ hp, by rw [len_map, hg.2.1]; exact small (by omega), fun p4 H2 s2 hr2 => ?_⟩⟩
    rw [mx_one m0]
    have o1 : 1 ≤ one1 m ∧ one1 m ≤ 512 := by unfold one1; split <;> omega
    rw [Int.fdiv_eq_ediv_of_nonneg _ (by omega)]
    have gs := grow_step hg m0 m1
    have le := Int.ediv_le_self (one1 m) (show 0 ≤ free by omega)
    exact ⟨by omega, by omega, by omega, sG.trans ((same_new hp2 _).trans s2), ms ++ [m], gs, by rw [hr2, List.map_append]; rfl, by omega⟩
  · obtain ⟨sG, p, ms, free, y3, y4, rfl, hg, hp, i4⟩ := h
    wp_walk using rRepT, tSeq, tIfS, inV, eqV
    exact q _ _ ms (s0.trans sG) (grow_fit hg (by rw [len_map]; omega)) (by rw [hg.2.1, len_map]) hp
end
abbrev slaworder : Stmt := top 36
def splaworder : Sp := fun vs H Q _ => ∃ (n : Int) (c : Nat), vs = [.int n, .int c] ∧ c ≤ 6 ∧ ∀ H' p (os : List Int), Same H H' → os.length ≤ 7 → H' p = some (.tup (os.map V.int)) → Q (.ref p) H'
section
variable {P : Program} {w : World} {K : PySem.W.Frag} {mg : Str → Option Value} {base : Heap} {f : Addr} {fd : FuncData}
theorem sclaworder : FnScope ["n", "count", "left", "out", "k", "size"] ["n", "count"] (defScope slaworder) := ⟨rfl, rfl, rfl, by decide +kernel, rfl, by decide +kernel, by decide +kernel⟩
theorem oklaworder (F : Fun K "_law_order" "_law_order" slaworder f fd) (zlist : mg "list" = none) (zrange : mg "range" = none) (zlen : mg "len" = none) (ztuple : mg "tuple" = none) : FnOk P w K mg base CX0 (1) f fd ["n", "count"] (splaworder) := by
  have sc := sclaworder
  refine F.ok sc (fun vs H Q E h => ?_) (fun cdv A outer s H vs Q E hr h => ?_)
  · obtain ⟨n, c, rfl, _⟩ := h; rfl
  obtain ⟨n, count, rfl, c6, q⟩ := h
  refine ⟨_, (pss_cons (ps_set (i := 2) sc.nd rfl (by first | exact Or.inl rfl | exact Or.inr rfl) (pe_callTy (call_listRng rfl) (by rfl) zlist boot_list (pa_cons (pe_callTy call_rangeV (by rfl) zrange boot_range (pa_cons (pv 1) pa_nil)) pa_nil))) (pss_cons (ps_set (i := 3) sc.nd rfl (by first | exact Or.inl rfl | exact Or.inr rfl) (pe_lst pa_nil)) (pss_cons (ps_for PassesOwn.never rfl (pi_range1 (by rfl) zrange (pa_cons (pv 1) pa_nil)) (pg_name (i := 4) sc.nd rfl (Or.inl rfl)) (pss_cons (ps_set (i := 5) sc.nd rfl (by first | exact Or.inl rfl | exact Or.inr rfl) (pe_callB call_len_seq (by rfl) zlen PySem.boot_len (pa_cons (pv 2) pa_nil))) (pss_cons (ps_expr (pe_app (pv 3) (pe_bm PySem.F.plainAttrs_list PySem.F.slot_list_pop PySem.F.type_list_pop mr_popAt (pv 2) (pa_cons (pe_op op_modN (pv 0) (pv 5)) pa_nil)))) (pss_one (ps_set (i := 0) sc.nd rfl (by first | exact Or.inl rfl | exact Or.inr rfl) (pe_op op_fdivW (pv 0) (pv 5))))))) (pss_cons (ps_if (pt_cmpR op_eq (pe_op op_mod (pv 0) pe_int) pe_int (nomark _)) (pss_one (ps_expr (pe_app (pv 3) (pv 1)))) pss_nil) (pss_cons (ps_if (pt_cmpR op_eq (pe_op op_mod (pv 0) pe_int) pe_int (nomark _)) (pss_one (ps_set (i := 3) sc.nd rfl (by first | exact Or.inl rfl | exact Or.inr rfl) (pe_slice sl_list (pv 3) (po_some pe_int) po_none))) pss_nil) (pss_cons (ps_if (pw_and (pt_cmpR op_eq (pe_op op_mod (pv 0) pe_int) pe_int (nomark _)) (pw_and1 (pt_cmpR op_gt (pv 1) pe_int (nomark _)))).pt (pss_one (ps_asg (pe_op op_sub (pe_un un_neg pe_int) (pe_op op_mod (pe_op op_fdiv (pv 0) pe_int) pe_int)) (pg_sub (pv 3) pe_int set_list))) pss_nil) (pss_cons (ps_if (pw_and (pt_cmpR op_eq (pe_op op_mod (pv 0) pe_int) pe_int (nomark _)) (pw_and1 (pt_cmpR op_gt (pv 1) pe_int (nomark _)))).pt (pss_one (ps_asg (pe_ix ix_listH (pv 3) pe_int (fun _ _ => rfl)) (pg_sub (pv 3) pe_int set_list))) pss_nil) (pss_cons (ps_if (pw_and (pt_cmpR op_eq (pe_op op_mod (pv 0) pe_int) pe_int (nomark _)) (pw_and1 (pt_cmpR op_gt (pv 1) pe_int (nomark _)))).pt (pss_one (ps_asg (pe_op op_add (pv 1) (pe_op op_mod (pe_op op_fdiv (pv 0) pe_int) pe_int)) (pg_sub (pv 3) pe_int set_list))) pss_nil) (pss_one (ps_ret (pe_callTy call_tuple_of (by rfl) ztuple boot_tuple (pa_cons (pv 3) pa_nil)))))))))))), ?_⟩
  simp only [L2.start, List.length_cons, List.length_nil, List.replicate, List.cons_append, List.nil_append, Nat.reduceSub, Nat.reduceAdd, List.map_cons, List.map_nil]
  refine seq_with (fun σ G => ∃ l, Same H G ∧ H l = none ∧ G l = some (.lst ((upL count).map V.int)) ∧ σ = [some (.int n), some (.int count), some (.ref l), none, none, none]) ?_ (fun R hR => ?_)
  rotate_left
  · wp_walk using rRepT, tSeq, tIfS, inV, eqV
    exact fun r hr => ⟨count, rfl, by omega, fun l hl => hR _ _ ⟨l, (same_new hr _).trans (same_new hl _), same_none (same_new hr _) hl, upd_same, rfl⟩⟩
  rintro σ1 G1 ⟨l, s1, fl, hl, rfl⟩
  refine seq_with (fun σ G => ∃ o, Same G1 G ∧ G1 o = none ∧ G o = some (.lst []) ∧ σ = [some (.int n), some (.int count), some (.ref l), some (.ref o), none, none]) ?_ (fun R hR => ?_)
  rotate_left
  · wp_walk using rRepT, tSeq, tIfS, inV, eqV
    exact ⟨Nat.zero_le _, fun o ho => hR _ _ ⟨o, same_new ho _, ho, upd_same, rfl⟩⟩
  rintro σ2 G2 ⟨o, s2, fo, ho, rfl⟩
  refine seq_with (fun σ G => ∃ (n : Int) (os : List Int) (y4 y5 : Option V), Same H G ∧ G o = some (.lst (os.map V.int)) ∧ os.length = count ∧ σ = [some (.int n), some (.int count), some (.ref l), some (.ref o), y4, y5]) ?_ (fun R hR => ?_)
  rotate_left
  · wp_walk using rRepT, tSeq, tIfS, inV, eqV
    refine ⟨by omega, by omega, ?_⟩
    rw [Int.toNat_natCast]
    refine LoopR.mk (fun i σ G => ∃ (n : Int) (ls os : List Int) (y4 y5 : Option V), Same H G ∧ G l = some (.lst (ls.map V.int)) ∧ G o = some (.lst (os.map V.int)) ∧ ls.length + i = count ∧ os.length = i ∧ σ = [some (.int n), some (.int count), some (.ref l), some (.ref o), y4, y5]) ⟨n, upL count, [], _, _, s1.trans s2, s2 _ _ hl, ho, by rw [up_len]; rfl, rfl, rfl⟩ (fun i σ G hi h => ?_) (fun σ G h => ?_)
    · obtain ⟨n, ls, os, y4, y5, sG, h1, h2, l1, l2, rfl⟩ := h
      wp_walk using rRepT, tSeq, tIfS, inV, eqV
      have ne : l ≠ o := fun z => by rw [z, fo] at hl; cases hl
      have fm := fmod_in (n := n) (r := (ls.length : Int)) (by omega)
      obtain ⟨j, hj⟩ : ∃ j : Nat, n.fmod (ls.length : Int) = j := ⟨_, (Int.toNat_of_nonneg fm.1).symm⟩
      have jl : j < ls.length := by omega
      refine ⟨_, .inl (.of h1), ⟨_, h2⟩, .inl ⟨_, .of h1⟩, ?_⟩
      rw [len_map, hj]
      exact ⟨by omega, _, h1, by omega, by omega, j, by rw [len_map]; exact (ixN_seq (ixN_nat jl)).1, .int ls[j], by rw [List.getElem?_map, List.getElem?_eq_getElem jl]; rfl, os.map V.int, by rw [upd_ne ne.symm]; exact h2, by rw [List.length_map]; exact small1000 (by omega), by omega, by omega, by omega, same_put (same_put sG fl) (same_none s1 fo), _, ls.eraseIdx j, by rw [upd_ne ne, upd_same, map_erase], os ++ [ls[j]], by rw [List.map_append]; rfl, by rw [List.length_eraseIdx, if_pos jl]; omega, by rw [List.length_append, l2]; rfl, rfl, _, rfl⟩
    · obtain ⟨n, ls, os, y4, y5, sG, h1, h2, l1, l2, rfl⟩ := h
      exact hR _ _ ⟨n, os, _, _, sG, h2, l2, rfl⟩
  rintro σ3 G3 ⟨n, os, y4, y5, sG, ho, ol', rfl⟩
  have fo := same_none s1 fo
  have ol6 : os.length ≤ 6 := by omega
  have ol : os.length ≤ 7 := by omega
  have oc : n % 16 = 2 ∨ count ≤ os.length := by omega
  clear ol'
  refine seq_with (fun σ G => ∃ (o : Addr) (os : List Int), Same H G ∧ H o = none ∧ G o = some (.lst (os.map V.int)) ∧ os.length ≤ 7 ∧ (n % 16 = 2 ∨ count ≤ os.length) ∧ σ = [some (.int n), some (.int count), some (.ref l), some (.ref o), y4, y5]) ?_ (fun R hR => ?_)
  rotate_left
  · wp_walk using rRepT, tSeq, tIfS, inV, eqV
    have keep := hR _ _ ⟨o, os, sG, fo, ho, ol, oc, rfl⟩
    split
    · exact ⟨⟨_, ho⟩, _, ho, by rw [List.length_map]; exact small1000 (by omega), hR _ _ ⟨o, os ++ [(count : Int)], same_put sG fo, fo, by rw [upd_same, List.map_append]; rfl, by rw [List.length_append, List.length_singleton]; omega, by rw [List.length_append]; omega, rfl⟩⟩
    · exact keep
  rintro σ4 G4 ⟨o, os, sG, fo, ho, ol, oc, rfl⟩
  refine seq_with (fun σ G => ∃ (o : Addr) (os : List Int), Same H G ∧ H o = none ∧ G o = some (.lst (os.map V.int)) ∧ os.length ≤ 7 ∧ (n % 16 = 2 ∨ count ≤ os.length) ∧ σ = [some (.int n), some (.int count), some (.ref l), some (.ref o), y4, y5]) ?_ (fun R hR => ?_)
  rotate_left
  · wp_walk using rRepT, tSeq, tIfS, inV, eqV
    have keep := hR _ _ ⟨o, os, sG, fo, ho, ol, oc, rfl⟩
    split
    · rename_i c
      simp only [rSlL]
      exact ⟨o, _, rfl, .of ho, fun p hp => hR _ _ ⟨p, os.drop 1, sG.trans (same_new hp _), same_none sG hp, by rw [upd_same, show (some (1 : Int)) = some ((1 : Nat) : Int) from rfl, cut_anyH], by rw [List.length_drop]; omega, .inl c, rfl⟩⟩
    · exact keep
  rintro σ5 G5 ⟨o, os, sG, fo, ho, ol, oc, rfl⟩
  refine seq_with (fun σ G => ∃ (o : Addr) (os : List Int), Same H G ∧ H o = none ∧ G o = some (.lst (os.map V.int)) ∧ os.length ≤ 7 ∧ (n % 16 = 2 ∨ count ≤ os.length) ∧ σ = [some (.int n), some (.int count), some (.ref l), some (.ref o), y4, y5]) ?_ (fun R hR => ?_)
  rotate_left
  · wp_walk using rRepT, tSeq, tIfS, inV, eqV
    have keep := hR _ _ ⟨o, os, sG, fo, ho, ol, oc, rfl⟩
    split
    · split
      · exact ⟨_, ho, 0, by rw [len_map]; exact ixN_nat (k := 0) (by omega), hR _ _ ⟨o, os.set 0 _, same_put sG fo, fo, by rw [upd_same, List.map_set], by rw [List.length_set]; exact ol, by rw [List.length_set]; exact oc, rfl⟩⟩
      · exact keep
    · exact keep
  rintro σ6 G6 ⟨o, os, sG, fo, ho, ol, oc, rfl⟩
  refine seq_with (fun σ G => ∃ (o : Addr) (os : List Int), Same H G ∧ H o = none ∧ G o = some (.lst (os.map V.int)) ∧ os.length ≤ 7 ∧ (n % 16 = 2 ∨ count ≤ os.length) ∧ σ = [some (.int n), some (.int count), some (.ref l), some (.ref o), y4, y5]) ?_ (fun R hR => ?_)
  rotate_left
  · wp_walk using rRepT, tSeq, tIfS, inV, eqV
    have keep := hR _ _ ⟨o, os, sG, fo, ho, ol, oc, rfl⟩
    split
    · split
      · have e1 : atI (os.map V.int) 1 = some (.int os[1]) := atI_nat (j := 1) (by rw [List.getElem?_map, List.getElem?_eq_getElem (by omega)]; rfl)
        exact ⟨_, ho, _, e1, _, ho, 0, by rw [len_map]; exact ixN_nat (k := 0) (by omega), hR _ _ ⟨o, os.set 0 _, same_put sG fo, fo, by rw [upd_same, List.map_set], by rw [List.length_set]; exact ol, by rw [List.length_set]; exact oc, rfl⟩⟩
      · exact keep
    · exact keep
  rintro σ7 G7 ⟨o, os, sG, fo, ho, ol, oc, rfl⟩
  refine seq_with (fun σ G => ∃ (o : Addr) (os : List Int), Same H G ∧ H o = none ∧ G o = some (.lst (os.map V.int)) ∧ os.length ≤ 7 ∧ (n % 16 = 2 ∨ count ≤ os.length) ∧ σ = [some (.int n), some (.int count), some (.ref l), some (.ref o), y4, y5]) ?_ (fun R hR => ?_)
  rotate_left
  · wp_walk using rRepT, tSeq, tIfS, inV, eqV
    have keep := hR _ _ ⟨o, os, sG, fo, ho, ol, oc, rfl⟩
    split
    · split
      · exact ⟨_, ho, 0, by rw [len_map]; exact ixN_nat (k := 0) (by omega), hR _ _ ⟨o, os.set 0 _, same_put sG fo, fo, by rw [upd_same, List.map_set], by rw [List.length_set]; exact ol, by rw [List.length_set]; exact oc, rfl⟩⟩
      · exact keep
    · exact keep
  rintro σ8 G8 ⟨o, os, sG, fo, ho, ol, oc, rfl⟩
  wp_walk using rRepT, tSeq, tIfS, inV, eqV
  exact ⟨_, .inl ⟨.of ho, fun t ht => q _ t os (sG.trans (same_new ht _)) ol upd_same⟩⟩
end
abbrev slawcut : Stmt := top 37
def splawcut : Sp := fun vs H Q _ => ∃ (a : Addr) (ns : List Int) (side n : Int), vs = [.ref a, .int side, .int n] ∧ H a = some (.tup (ns.map V.int)) ∧ (∀ z ∈ ns, 0 ≤ z ∧ z ≤ 512) ∧ smN n ∧ ∀ H' p f m g, Same H H' → smI f → smI g → -100 < m → m < 100000 → H' p = some (.tup [.str (Str.ofString "cut"), .int side, .int f, .int m, .int g]) → Q (.ref p) H'
section
variable {P : Program} {w : World} {K : PySem.W.Frag} {mg : Str → Option Value} {base : Heap} {f : Addr} {fd : FuncData}
theorem sclawcut : FnScope ["sides", "side", "n", "size", "step", "first", "most", "many", "far", "way"] ["sides", "side", "n"] (defScope slawcut) := ⟨rfl, rfl, rfl, by decide +kernel, rfl, by decide +kernel, by decide +kernel⟩
theorem oklawcut (F : Fun K "_law_cut" "_law_cut" slawcut f fd) (zlen : mg "len" = none) (zmax : mg "max" = none) (zmin : mg "min" = none) : FnOk P w K mg base CX0 (1) f fd ["sides", "side", "n"] (splawcut) := by
  have sc := sclawcut
  refine F.ok sc (fun vs H Q E h => ?_) (fun cdv A outer s H vs Q E hr h => ?_)
  · obtain ⟨a, ns, side, n, rfl, _⟩ := h; rfl
  obtain ⟨a, ns, side, n, rfl, ha, sd, hn, q⟩ := h
  refine ⟨_, (pss_cons (ps_set (i := 3) sc.nd rfl (by first | exact Or.inl rfl | exact Or.inr rfl) pe_int) (pss_cons (ps_if (pt_chain op_le op_lt pe_int (pv 1) (pe_callB call_len_seq (by rfl) zlen PySem.boot_len (pa_cons (pv 0) pa_nil))) (pss_one (ps_set (i := 3) sc.nd rfl (by first | exact Or.inl rfl | exact Or.inr rfl) (pe_ix ix_tupH (pv 0) (pv 1) (fun _ _ => rfl)))) pss_nil) (pss_cons (ps_set (i := 4) sc.nd rfl (by first | exact Or.inl rfl | exact Or.inr rfl) (pe_op op_add pe_int (pe_op op_mod (pv 2) pe_int))) (pss_cons (ps_set (i := 5) sc.nd rfl (by first | exact Or.inl rfl | exact Or.inr rfl) (pe_op op_modN (pe_op op_fdiv (pv 2) pe_int) (pe_callB (call_max2 rfl) (by rfl) zmax boot_max (pa_cons pe_int (pa_cons (pv 3) pa_nil))))) (pss_cons (ps_set (i := 6) sc.nd rfl (by first | exact Or.inl rfl | exact Or.inr rfl) (pe_callB (call_max2 rfl) (by rfl) zmax boot_max (pa_cons pe_int (pa_cons (pe_op op_add (pe_op op_fdivW (pe_op op_sub (pe_op op_sub (pv 3) pe_int) (pv 5)) (pv 4)) pe_int) pa_nil)))) (pss_cons (ps_set (i := 7) sc.nd rfl (by first | exact Or.inl rfl | exact Or.inr rfl) (pe_callB (call_min2 rfl) (by rfl) zmin boot_min (pa_cons (pv 6) (pa_cons (pe_op op_add pe_int (pe_op op_modN (pe_op op_fdiv (pv 2) pe_int) (pe_op op_add (pv 6) pe_int))) pa_nil)))) (pss_cons (ps_set (i := 8) sc.nd rfl (by first | exact Or.inl rfl | exact Or.inr rfl) (pe_op op_fdiv (pv 2) (pe_op op_pow pe_int pe_int))) (pss_cons (ps_set (i := 9) sc.nd rfl (by first | exact Or.inl rfl | exact Or.inr rfl) (pe_op op_mod (pe_op op_fdiv (pv 2) (pe_op op_pow pe_int pe_int)) pe_int)) (pss_cons (ps_if (pt_cmpR op_eq (pv 9) pe_int (nomark _)) (pss_one (ps_set (i := 5) sc.nd rfl (by first | exact Or.inl rfl | exact Or.inr rfl) (pe_op op_sub (pe_un un_neg pe_int) (pe_op op_mod (pv 8) pe_int)))) pss_nil) (pss_cons (ps_if (pt_cmpR op_eq (pv 9) pe_int (nomark _)) (pss_one (ps_set (i := 7) sc.nd rfl (by first | exact Or.inl rfl | exact Or.inr rfl) (pe_op op_add (pe_op op_add (pv 6) pe_int) (pe_op op_mul (pe_op op_mod (pv 8) pe_int) pe_int)))) pss_nil) (pss_cons (ps_if (pt_cmpR op_eq (pv 9) pe_int (nomark _)) (pss_one (ps_set (i := 4) sc.nd rfl (by first | exact Or.inl rfl | exact Or.inr rfl) (pe_op op_sub pe_int (pe_op op_mod (pv 8) pe_int)))) pss_nil) (pss_cons (ps_if (pt_cmpR op_eq (pv 9) pe_int (nomark _)) (pss_one (ps_set (i := 7) sc.nd rfl (by first | exact Or.inl rfl | exact Or.inr rfl) (pe_op op_sub (pe_un un_neg pe_int) (pe_op op_mod (pv 8) pe_int)))) pss_nil) (pss_cons (ps_if (pt_cmpR op_eq (pv 9) pe_int (nomark _)) (pss_cons (ps_set (i := 7) sc.nd rfl (by first | exact Or.inl rfl | exact Or.inr rfl) (pe_callB (call_min2 rfl) (by rfl) zmin boot_min (pa_cons (pv 7) (pa_cons pe_int pa_nil)))) (pss_one (ps_set (i := 4) sc.nd rfl (by first | exact Or.inl rfl | exact Or.inr rfl) (pe_op op_add pe_int (pv 8))))) pss_nil) (pss_cons (ps_if (pt_cmpR op_eq (pv 9) pe_int (nomark _)) (pss_cons (ps_set (i := 7) sc.nd rfl (by first | exact Or.inl rfl | exact Or.inr rfl) pe_int) (pss_one (ps_set (i := 5) sc.nd rfl (by first | exact Or.inl rfl | exact Or.inr rfl) (pv 8)))) pss_nil) (pss_one (ps_ret (pe_tup (pa_cons pe_str (pa_cons (pv 1) (pa_cons (pv 5) (pa_cons (pv 7) (pa_cons (pv 4) pa_nil)))))))))))))))))))))), ?_⟩
  simp only [L2.start, List.length_cons, List.length_nil, List.replicate, List.cons_append, List.nil_append, Nat.reduceSub, Nat.reduceAdd, List.map_cons, List.map_nil]
  unfold smN at hn
  refine seq_with (fun σ G => G = H ∧ σ = [some (.ref a), some (.int side), some (.int n), some (.int 5), none, none, none, none, none, none]) ?_ (fun R hR => ?_)
  rotate_left
  · wp_walk using rRepT, tSeq, tIfS, inV, eqV
    exact hR _ _ ⟨rfl, rfl⟩
  rintro σ1 G1 ⟨rfl, rfl⟩
  refine seq_with (fun σ G => G = G1 ∧ ∃ sz : Int, 0 ≤ sz ∧ sz ≤ 512 ∧ σ = [some (.ref a), some (.int side), some (.int n), some (.int sz), none, none, none, none, none, none]) ?_ (fun R hR => ?_)
  rotate_left
  · wp_walk using rRepT, tSeq, tIfS, inV, eqV
    have keep := hR _ _ ⟨rfl, 5, by decide, by decide, rfl⟩
    split
    rotate_left
    · exact keep
    refine ⟨_, .inr (.of ha), ?_⟩
    rw [len_map]
    split
    rotate_left
    · exact keep
    obtain ⟨k, rfl⟩ : ∃ k : Nat, side = k := ⟨side.toNat, by omega⟩
    have kl : k < ns.length := by omega
    have b := sd _ (getD_memI kl)
    exact ⟨_, ha, _, at_side kl, hR _ _ ⟨rfl, _, b.1, b.2, rfl⟩⟩
  rintro σ2 G2 ⟨rfl, sz, z0, z1, rfl⟩
  refine seq_with (fun σ G => G = G2 ∧ ∃ g : Int, 1 ≤ g ∧ g ≤ 4 ∧ σ = [some (.ref a), some (.int side), some (.int n), some (.int sz), some (.int g), none, none, none, none, none]) ?_ (fun R hR => ?_)
  rotate_left
  · wp_walk using rRepT, tSeq, tIfS, inV, eqV
    exact hR _ _ ⟨rfl, _, by omega, by omega, rfl⟩
  rintro σ3 G3 ⟨rfl, g, g0, g1, rfl⟩
  refine seq_with (fun σ G => G = G3 ∧ ∃ f : Int, 0 ≤ f ∧ f ≤ 512 ∧ σ = [some (.ref a), some (.int side), some (.int n), some (.int sz), some (.int g), some (.int f), none, none, none, none]) ?_ (fun R hR => ?_)
  rotate_left
  · wp_walk using rRepT, tSeq, tIfS, inV, eqV
    have z : 1 ≤ (if sz > 1 then sz else 1) ∧ (if sz > 1 then sz else 1) ≤ 512 := by split <;> omega
    have k := fmod_in (n := n / 4) (r := if sz > 1 then sz else 1) (by omega)
    exact ⟨by omega, hR _ _ ⟨rfl, _, by omega, by omega, rfl⟩⟩
  rintro σ4 G4 ⟨rfl, f, f0, f1, rfl⟩
  refine seq_with (fun σ G => G = G4 ∧ ∃ mo : Int, 0 ≤ mo ∧ mo ≤ 513 ∧ σ = [some (.ref a), some (.int side), some (.int n), some (.int sz), some (.int g), some (.int f), some (.int mo), none, none, none]) ?_ (fun R hR => ?_)
  rotate_left
  · wp_walk using rRepT, tSeq, tIfS, inV, eqV
    have mb := most_in z0 z1 f0 f1 g0 g1
    exact ⟨by omega, by omega, by omega, hR _ _ ⟨rfl, _, mb.1, mb.2, rfl⟩⟩
  rintro σ5 G5 ⟨rfl, mo, o0, o1, rfl⟩
  refine seq_with (fun σ G => G = G5 ∧ ∃ m : Int, 0 ≤ m ∧ m ≤ 600 ∧ σ = [some (.ref a), some (.int side), some (.int n), some (.int sz), some (.int g), some (.int f), some (.int mo), some (.int m), none, none]) ?_ (fun R hR => ?_)
  rotate_left
  · wp_walk using rRepT, tSeq, tIfS, inV, eqV
    have k := fmod_in (n := n / 4096) (r := mo + 1) (by omega)
    refine ⟨by omega, hR _ _ ⟨rfl, _, ?_, ?_, rfl⟩⟩
    · split <;> omega
    · split <;> omega
  rintro σ6 G6 ⟨rfl, m, m0, m1, rfl⟩
  refine seq_with (fun σ G => G = G6 ∧ σ = [some (.ref a), some (.int side), some (.int n), some (.int sz), some (.int g), some (.int f), some (.int mo), some (.int m), some (.int (n / 67108864)), none]) ?_ (fun R hR => ?_)
  rotate_left
  · wp_walk using rRepT, tSeq, tIfS, inV, eqV
    exact hR _ _ ⟨rfl, rfl⟩
  rintro σ7 G7 ⟨rfl, rfl⟩
  have fb : 0 ≤ n / 67108864 ∧ n / 67108864 < 34359738368 := by omega
  generalize n / 67108864 = fa at *
  refine seq_with (fun σ G => G = G7 ∧ ∃ wa : Int, σ = [some (.ref a), some (.int side), some (.int n), some (.int sz), some (.int g), some (.int f), some (.int mo), some (.int m), some (.int fa), some (.int wa)]) ?_ (fun R hR => ?_)
  rotate_left
  · wp_walk using rRepT, tSeq, tIfS, inV, eqV
    exact hR _ _ ⟨rfl, _, rfl⟩
  rintro σ8 G8 ⟨rfl, wa, rfl⟩
  have h1 : smI f := ⟨by omega, by omega⟩
  have h2 : smI g := ⟨by omega, by omega⟩
  have h3 : -100 < m := by omega
  have h4 : m < 100000 := by omega
  clear f0 f1 g0 g1 m0 m1
  refine seq_with (fun σ G => G = G8 ∧ ∃ f m g : Int, smI f ∧ smI g ∧ -100 < m ∧ m < 100000 ∧ σ = [some (.ref a), some (.int side), some (.int n), some (.int sz), some (.int g), some (.int f), some (.int mo), some (.int m), some (.int fa), some (.int wa)]) ?_ (fun R hR => ?_)
  rotate_left
  · wp_walk using rRepT, tSeq, tIfS, inV, eqV
    split
    · exact hR _ _ ⟨rfl, _, m, g, ⟨by omega, by omega⟩, h2, h3, h4, rfl⟩
    · exact hR _ _ ⟨rfl, f, m, g, h1, h2, h3, h4, rfl⟩
  rintro σ9 G9 ⟨rfl, f, m, g, h1, h2, h3, h4, rfl⟩
  refine seq_with (fun σ G => G = G9 ∧ ∃ f m g : Int, smI f ∧ smI g ∧ -100 < m ∧ m < 100000 ∧ σ = [some (.ref a), some (.int side), some (.int n), some (.int sz), some (.int g), some (.int f), some (.int mo), some (.int m), some (.int fa), some (.int wa)]) ?_ (fun R hR => ?_)
  rotate_left
  · wp_walk using rRepT, tSeq, tIfS, inV, eqV
    split
    · exact hR _ _ ⟨rfl, f, _, g, h1, h2, by omega, by omega, rfl⟩
    · exact hR _ _ ⟨rfl, f, m, g, h1, h2, h3, h4, rfl⟩
  rintro σa Ga ⟨rfl, f, m, g, h1, h2, h3, h4, rfl⟩
  refine seq_with (fun σ G => G = Ga ∧ ∃ f m g : Int, smI f ∧ smI g ∧ -100 < m ∧ m < 100000 ∧ σ = [some (.ref a), some (.int side), some (.int n), some (.int sz), some (.int g), some (.int f), some (.int mo), some (.int m), some (.int fa), some (.int wa)]) ?_ (fun R hR => ?_)
  rotate_left
  · wp_walk using rRepT, tSeq, tIfS, inV, eqV
    split
    · exact hR _ _ ⟨rfl, f, m, _, h1, ⟨by omega, by omega⟩, h3, h4, rfl⟩
    · exact hR _ _ ⟨rfl, f, m, g, h1, h2, h3, h4, rfl⟩
  rintro σb Gb ⟨rfl, f, m, g, h1, h2, h3, h4, rfl⟩
  refine seq_with (fun σ G => G = Gb ∧ ∃ f m g : Int, smI f ∧ smI g ∧ -100 < m ∧ m < 100000 ∧ σ = [some (.ref a), some (.int side), some (.int n), some (.int sz), some (.int g), some (.int f), some (.int mo), some (.int m), some (.int fa), some (.int wa)]) ?_ (fun R hR => ?_)
  rotate_left
  · wp_walk using rRepT, tSeq, tIfS, inV, eqV
    split
    · exact hR _ _ ⟨rfl, f, _, g, h1, h2, by omega, by omega, rfl⟩
    · exact hR _ _ ⟨rfl, f, m, g, h1, h2, h3, h4, rfl⟩
  rintro σc Gc ⟨rfl, f, m, g, h1, h2, h3, h4, rfl⟩
  refine seq_with (fun σ G => G = Gc ∧ ∃ f m g : Int, smI f ∧ smI g ∧ -100 < m ∧ m < 100000 ∧ σ = [some (.ref a), some (.int side), some (.int n), some (.int sz), some (.int g), some (.int f), some (.int mo), some (.int m), some (.int fa), some (.int wa)]) ?_ (fun R hR => ?_)
  rotate_left
  · wp_walk using rRepT, tSeq, tIfS, inV, eqV
    split
    · exact hR _ _ ⟨rfl, f, _, _, h1, ⟨by omega, by omega⟩, by split <;> omega, by split <;> omega, rfl⟩
    · exact hR _ _ ⟨rfl, f, m, g, h1, h2, h3, h4, rfl⟩
  rintro σd Gd ⟨rfl, f, m, g, h1, h2, h3, h4, rfl⟩
  refine seq_with (fun σ G => G = Gd ∧ ∃ f m g : Int, smI f ∧ smI g ∧ -100 < m ∧ m < 100000 ∧ σ = [some (.ref a), some (.int side), some (.int n), some (.int sz), some (.int g), some (.int f), some (.int mo), some (.int m), some (.int fa), some (.int wa)]) ?_ (fun R hR => ?_)
  rotate_left
  · wp_walk using rRepT, tSeq, tIfS, inV, eqV
    split
    · exact hR _ _ ⟨rfl, _, _, g, ⟨by omega, by omega⟩, h2, by decide, by decide, rfl⟩
    · exact hR _ _ ⟨rfl, f, m, g, h1, h2, h3, h4, rfl⟩
  rintro σe Ge ⟨rfl, f, m, g, h1, h2, h3, h4, rfl⟩
  wp_walk using rRepT, tSeq, tIfS, inV, eqV
  exact ⟨small (by decide), fun p hp => q _ p f m g (same_new hp _) h1 h2 h3 h4 upd_same⟩
end
abbrev slawroom : Stmt := top 38
def splawroom : Sp := fun vs H Q _ => ∃ (a : Addr) (ns : List Int), vs = [.ref a] ∧ H a = some (.tup (ns.map V.int)) ∧ sdOk ns ∧ Q (.int (roomI ns)) H
section
variable {P : Program} {w : World} {K : PySem.W.Frag} {mg : Str → Option Value} {base : Heap} {f : Addr} {fd : FuncData}
theorem sclawroom : FnScope ["sides", "room", "side"] ["sides"] (defScope slawroom) := ⟨rfl, rfl, rfl, by decide +kernel, rfl, by decide +kernel, by decide +kernel⟩
theorem oklawroom (F : Fun K "_law_room" "_law_room" slawroom f fd) (zmax : mg "max" = none) : FnOk P w K mg base CX0 (1) f fd ["sides"] (splawroom) := by
  have sc := sclawroom
  refine F.ok sc (fun vs H Q E h => ?_) (fun cdv A outer s H vs Q E hr h => ?_)
  · obtain ⟨a, ns, rfl, _⟩ := h; rfl
  obtain ⟨a, ns, rfl, ha, sd, q⟩ := h
  refine ⟨_, (pss_cons (ps_set (i := 1) sc.nd rfl (by first | exact Or.inl rfl | exact Or.inr rfl) pe_int) (pss_cons (ps_for PassesOwn.never rfl (pi_tup (pv 0)) (pg_name (i := 2) sc.nd rfl (Or.inl rfl)) (pss_one (ps_set (i := 1) sc.nd rfl (by first | exact Or.inl rfl | exact Or.inr rfl) (pe_op op_fdivW (pv 1) (pe_callB (call_max2 rfl) (by rfl) zmax boot_max (pa_cons pe_int (pa_cons (pv 2) pa_nil))))))) (pss_one (ps_ret (pv 1))))), ?_⟩
  simp only [L2.start, List.length_cons, List.length_nil, List.replicate, List.cons_append, List.nil_append, Nat.reduceSub, Nat.reduceAdd, List.map_cons, List.map_nil]
  wp_walk using rRepT, tSeq, tIfS, inV, eqV
  refine LoopT.mk (xs := ns.map V.int) (.of ha) (fun i σ G => G = H ∧ ∃ y, σ = [some (.ref a), some (.int (roomI (ns.take i))), y]) ⟨rfl, _, rfl⟩ (fun i σ G _ h => by rw [h.1]; exact .of ha) (fun i x σ G e h => ?_) (fun σ G h => ?_)
  · obtain ⟨rfl, y, rfl⟩ := h
    obtain ⟨m, rfl, hm, b0, b1⟩ := sd_at sd e
    have e1 : roomI (ns.take (i + 1)) = roomI (ns.take i) / one1 m := by
      rw [List.take_add_one, hm]; exact room_snoc fun n hn => (sd n (List.mem_of_mem_take hn)).1
    have p1 := one1_pos b0
    have p2 : one1 m < 1000000000000000000 := by unfold one1; split <;> omega
    wp_walk using rRepT, tSeq, tIfS, inV, eqV, one1_max b0
    exact ⟨by omega, by omega, by omega, by rw [e1, Int.fdiv_eq_ediv_of_nonneg _ (by omega)], _, rfl⟩
  · obtain ⟨rfl, y, rfl⟩ := h
    rw [len_map, List.take_length]
    wp_walk using rRepT, tSeq, tIfS, inV, eqV
    exact q
end
abbrev slawspread : Stmt := top 39
def splawspread : Sp := fun vs H Q _ => ∃ (a : Addr) (ns : List Int) (side n : Int), vs = [.ref a, .int side, .int n] ∧ H a = some (.tup (ns.map V.int)) ∧ sdOk ns ∧ 1 ≤ roomI ns ∧ smN n ∧ ∀ H' p many, Same H H' → -100 < many → many < 1000000 → H' p = some (.tup [.str (Str.ofString "spread"), .int side, .int many]) → Q (.ref p) H'
section
variable {P : Program} {w : World} {K : PySem.W.Frag} {mg : Str → Option Value} {base : Heap} {f : Addr} {fd : FuncData}
theorem sclawspread : FnScope ["sides", "side", "n", "room", "many", "way"] ["sides", "side", "n"] (defScope slawspread) := ⟨rfl, rfl, rfl, by decide +kernel, rfl, by decide +kernel, by decide +kernel⟩
theorem oklawspread (F : Fun K "_law_spread" "_law_spread" slawspread f fd) (clawroom : Callee P w K mg base CX0 (1) "_law_room" ["sides"] splawroom) (zmin : mg "min" = none) : FnOk P w K mg base CX0 (2) f fd ["sides", "side", "n"] (splawspread) := by
  have sc := sclawspread
  refine F.ok sc (fun vs H Q E h => ?_) (fun cdv A outer s H vs Q E hr h => ?_)
  · obtain ⟨a, ns, side, n, rfl, _⟩ := h; rfl
  obtain ⟨a, ns, side, n, rfl, ha, sd, r1, hn, q⟩ := h
  refine ⟨_, (pss_cons (ps_set (i := 3) sc.nd rfl (by first | exact Or.inl rfl | exact Or.inr rfl) (pe_cal clawroom hr (by rfl) pass0 (pa_cons (pv 0) pa_nil))) (pss_cons (ps_set (i := 4) sc.nd rfl (by first | exact Or.inl rfl | exact Or.inr rfl) (pe_op op_add pe_int (pe_op op_modN (pv 2) (pe_callB (call_min2 rfl) (by rfl) zmin boot_min (pa_cons (pv 3) (pa_cons pe_int pa_nil)))))) (pss_cons (ps_set (i := 5) sc.nd rfl (by first | exact Or.inl rfl | exact Or.inr rfl) (pe_op op_mod (pe_op op_fdiv (pv 2) pe_int) pe_int)) (pss_cons (ps_if (pt_cmpR op_eq (pv 5) pe_int (nomark _)) (pss_one (ps_set (i := 4) sc.nd rfl (by first | exact Or.inl rfl | exact Or.inr rfl) (pe_op op_sub (pe_un un_neg pe_int) (pe_op op_mod (pe_op op_fdiv (pv 2) pe_int) pe_int)))) pss_nil) (pss_cons (ps_if (pt_cmpR op_eq (pv 5) pe_int (nomark _)) (pss_one (ps_set (i := 4) sc.nd rfl (by first | exact Or.inl rfl | exact Or.inr rfl) (pe_op op_add (pe_op op_add (pv 3) pe_int) (pe_op op_mul (pe_op op_mod (pe_op op_fdiv (pv 2) pe_int) pe_int) pe_int)))) pss_nil) (pss_cons (ps_if (pt_cmpR op_eq (pv 5) pe_int (nomark _)) (pss_one (ps_set (i := 4) sc.nd rfl (by first | exact Or.inl rfl | exact Or.inr rfl) (pe_op op_add pe_int (pe_op op_modN (pe_op op_fdiv (pv 2) pe_int) (pv 3))))) pss_nil) (pss_cons (ps_if (pt_cmpR op_eq (pv 5) pe_int (nomark _)) (pss_one (ps_set (i := 4) sc.nd rfl (by first | exact Or.inl rfl | exact Or.inr rfl) pe_int)) pss_nil) (pss_one (ps_ret (pe_tup (pa_cons pe_str (pa_cons (pv 1) (pa_cons (pv 4) pa_nil))))))))))))), ?_⟩
  simp only [L2.start, List.length_cons, List.length_nil, List.replicate, List.cons_append, List.nil_append, Nat.reduceSub, Nat.reduceAdd, List.map_cons, List.map_nil]
  have rb := room_in fun n hn => (sd n hn).1
  have hb : 0 ≤ n / 8 % 16 ∧ n / 8 % 16 < 16 := by omega
  refine seq_with (fun σ G => G = H ∧ σ = [some (.ref a), some (.int side), some (.int n), some (.int (roomI ns)), none, none]) ?_ (fun R hR => ?_)
  rotate_left
  · wp_walk using rRepT, tSeq, tIfS, inV, eqV, splawroom
    exact ⟨ns, ha, sd, hR _ _ ⟨rfl, rfl⟩⟩
  rintro σ1 G1 ⟨rfl, rfl⟩
  generalize roomI ns = r at *
  refine seq_with (fun σ G => G = G1 ∧ ∃ m, -100 < m ∧ m < 1000000 ∧ σ = [some (.ref a), some (.int side), some (.int n), some (.int r), some (.int m), none]) ?_ (fun R hR => ?_)
  rotate_left
  · wp_walk using rRepT, tSeq, tIfS, inV, eqV
    have z : 1 ≤ (if 3 < r then 3 else r) ∧ (if 3 < r then 3 else r) ≤ 3 := by split <;> omega
    have f := fmod_in (n := n) (r := if 3 < r then 3 else r) (by omega)
    exact ⟨by omega, hR _ _ ⟨rfl, _, by omega, by omega, rfl⟩⟩
  rintro σ2 G2 ⟨rfl, m, m0, m1, rfl⟩
  refine seq_with (fun σ G => G = G2 ∧ σ = [some (.ref a), some (.int side), some (.int n), some (.int r), some (.int m), some (.int (n / 8 % 16))]) ?_ (fun R hR => ?_)
  rotate_left
  · wp_walk using rRepT, tSeq, tIfS, inV, eqV
    exact hR _ _ ⟨rfl, rfl⟩
  rintro σ3 G3 ⟨rfl, rfl⟩
  refine seq_with (fun σ G => G = G3 ∧ ∃ m, -100 < m ∧ m < 1000000 ∧ σ = [some (.ref a), some (.int side), some (.int n), some (.int r), some (.int m), some (.int (n / 8 % 16))]) ?_ (fun R hR => ?_)
  rotate_left
  · wp_walk using rRepT, tSeq, tIfS, inV, eqV
    split
    · exact hR _ _ ⟨rfl, _, by omega, by omega, rfl⟩
    · exact hR _ _ ⟨rfl, m, m0, m1, rfl⟩
  rintro σ4 G4 ⟨rfl, m, m0, m1, rfl⟩
  refine seq_with (fun σ G => G = G4 ∧ ∃ m, -100 < m ∧ m < 1000000 ∧ σ = [some (.ref a), some (.int side), some (.int n), some (.int r), some (.int m), some (.int (n / 8 % 16))]) ?_ (fun R hR => ?_)
  rotate_left
  · wp_walk using rRepT, tSeq, tIfS, inV, eqV
    split
    · exact hR _ _ ⟨rfl, _, by omega, by omega, rfl⟩
    · exact hR _ _ ⟨rfl, m, m0, m1, rfl⟩
  rintro σ5 G5 ⟨rfl, m, m0, m1, rfl⟩
  refine seq_with (fun σ G => G = G5 ∧ ∃ m, -100 < m ∧ m < 1000000 ∧ σ = [some (.ref a), some (.int side), some (.int n), some (.int r), some (.int m), some (.int (n / 8 % 16))]) ?_ (fun R hR => ?_)
  rotate_left
  · wp_walk using rRepT, tSeq, tIfS, inV, eqV
    split
    · have f := fmod_in (n := n / 128) (r := r) (by omega)
      exact ⟨by omega, hR _ _ ⟨rfl, _, by omega, by omega, rfl⟩⟩
    · exact hR _ _ ⟨rfl, m, m0, m1, rfl⟩
  rintro σ6 G6 ⟨rfl, m, m0, m1, rfl⟩
  refine seq_with (fun σ G => G = G6 ∧ ∃ m, -100 < m ∧ m < 1000000 ∧ σ = [some (.ref a), some (.int side), some (.int n), some (.int r), some (.int m), some (.int (n / 8 % 16))]) ?_ (fun R hR => ?_)
  rotate_left
  · wp_walk using rRepT, tSeq, tIfS, inV, eqV
    split
    · exact hR _ _ ⟨rfl, _, by decide, by decide, rfl⟩
    · exact hR _ _ ⟨rfl, m, m0, m1, rfl⟩
  rintro σ7 G7 ⟨rfl, m, m0, m1, rfl⟩
  wp_walk using rRepT, tSeq, tIfS, inV, eqV
  exact ⟨small (by decide), fun p hp => q _ p m (same_new hp _) m0 m1 upd_same⟩
end
abbrev slawlonger : Stmt := top 40
def splawlonger : Sp := fun vs H Q _ => ∃ (a : Addr) (ns : List Int) (n : Int), vs = [.ref a, .int n] ∧ H a = some (.tup (ns.map V.int)) ∧ sdOk ns ∧ ns.length ≤ 6 ∧ 1 ≤ roomI ns ∧ fit ns ∧ smN n ∧ ∀ H' p d, Same H H' → DgAt H' p d → ledOk ns d → Q (.ref p) H'
section
variable {P : Program} {w : World} {K : PySem.W.Frag} {mg : Str → Option Value} {base : Heap} {f : Addr} {fd : FuncData}
theorem sclawlonger : FnScope ["sides", "n", "out", "room", "k", "side", "way", "first"] ["sides", "n"] (defScope slawlonger) := ⟨rfl, rfl, rfl, by decide +kernel, rfl, by decide +kernel, by decide +kernel⟩
theorem oklawlonger (F : Fun K "_law_longer" "_law_longer" slawlonger f fd) (clawroom : Callee P w K mg base CX0 (1) "_law_room" ["sides"] splawroom) (zrange : mg "range" = none) (zlen : mg "len" = none) (zmin : mg "min" = none) : FnOk P w K mg base CX0 (2) f fd ["sides", "n"] (splawlonger) := by
  have sc := sclawlonger
  refine F.ok sc (fun vs H Q E h => ?_) (fun cdv A outer s H vs Q E hr h => ?_)
  · obtain ⟨a, ns, n, rfl, _⟩ := h; rfl
  obtain ⟨a, ns, n, rfl, ha, sd, l6, r1, hft, hn, q⟩ := h
  refine ⟨_, (pss_cons (ps_set (i := 2) sc.nd rfl (by first | exact Or.inl rfl | exact Or.inr rfl) (pv 0)) (pss_cons (ps_set (i := 3) sc.nd rfl (by first | exact Or.inl rfl | exact Or.inr rfl) (pe_cal clawroom hr (by rfl) pass0 (pa_cons (pv 0) pa_nil))) (pss_cons (ps_for PassesOwn.never rfl (pi_range1 (by rfl) zrange (pa_cons (pe_op op_mod (pv 1) pe_int) pa_nil)) (pg_name (i := 4) sc.nd rfl (Or.inl rfl)) (pss_one (ps_if (pt_cmpR op_lt (pe_callB call_len_seq (by rfl) zlen PySem.boot_len (pa_cons (pv 2) pa_nil)) pe_int (nomark _)) (pss_cons (ps_set (i := 5) sc.nd rfl (by first | exact Or.inl rfl | exact Or.inr rfl) (pe_op op_add pe_int (pe_op op_modN (pe_op op_fdiv (pv 1) pe_int) (pe_callB (call_min2 rfl) (by rfl) zmin boot_min (pa_cons (pv 3) (pa_cons (pe_op op_add pe_int (pe_op op_mul pe_int (pv 4))) pa_nil)))))) (pss_cons (ps_set (i := 2) sc.nd rfl (by first | exact Or.inl rfl | exact Or.inr rfl) (pe_op op_catS (pv 2) (pe_tup (pa_cons (pv 5) pa_nil)))) (pss_one (ps_set (i := 3) sc.nd rfl (by first | exact Or.inl rfl | exact Or.inr rfl) (pe_op op_fdivW (pv 3) (pv 5)))))) pss_nil))) (pss_cons (ps_set (i := 6) sc.nd rfl (by first | exact Or.inl rfl | exact Or.inr rfl) (pe_op op_mod (pe_op op_fdiv (pv 1) pe_int) pe_int)) (pss_cons (ps_if (pw_and (pt_cmpR op_eq (pv 6) pe_int (nomark _)) (pw_and1 (pt_cmpR op_gt (pe_callB call_len_seq (by rfl) zlen PySem.boot_len (pa_cons (pv 0) pa_nil)) pe_int (nomark _)))).pt (pss_one (ps_set (i := 2) sc.nd rfl (by first | exact Or.inl rfl | exact Or.inr rfl) (pe_slice sl_tupA (pv 0) po_none (po_some (pe_un un_neg pe_int))))) pss_nil) (pss_cons (ps_if (pw_and (pt_cmpR op_eq (pv 6) pe_int (nomark _)) (pw_and1 (pt_cmpR op_gt (pe_callB call_len_seq (by rfl) zlen PySem.boot_len (pa_cons (pv 0) pa_nil)) pe_int (nomark _)))).pt (pss_cons (ps_set (i := 7) sc.nd rfl (by first | exact Or.inl rfl | exact Or.inr rfl) (pe_op op_sub (pe_ix ix_tupH (pv 0) pe_int (fun _ _ => rfl)) pe_int)) (pss_cons (ps_if (pt_cmpR op_lt (pv 7) pe_int (nomark _)) (pss_one (ps_set (i := 7) sc.nd rfl (by first | exact Or.inl rfl | exact Or.inr rfl) pe_int)) pss_nil) (pss_one (ps_set (i := 2) sc.nd rfl (by first | exact Or.inl rfl | exact Or.inr rfl) (pe_op op_catS (pe_tup (pa_cons (pv 7) pa_nil)) (pe_slice sl_tupA (pv 2) (po_some pe_int) po_none)))))) pss_nil) (pss_cons (ps_if (pw_and (pt_cmpR op_eq (pv 6) pe_int (nomark _)) (pw_and (pt_cmpR op_gt (pe_callB call_len_seq (by rfl) zlen PySem.boot_len (pa_cons (pv 0) pa_nil)) pe_int (nomark _)) (pw_and1 (pt_cmpR op_ne (pe_ix ix_tupH (pv 0) pe_int (fun _ _ => rfl)) (pe_ix ix_tupH (pv 0) (pe_un un_neg pe_int) (fun _ _ => rfl)) (nomark _))))).pt (pss_one (ps_set (i := 2) sc.nd rfl (by first | exact Or.inl rfl | exact Or.inr rfl) (pe_op op_catS (pe_op op_catS (pe_tup (pa_cons (pe_ix ix_tupH (pv 0) (pe_un un_neg pe_int) (fun _ _ => rfl)) pa_nil)) (pe_slice sl_tupA (pv 0) (po_some pe_int) (po_some (pe_un un_neg pe_int)))) (pe_tup (pa_cons (pe_ix ix_tupH (pv 0) pe_int (fun _ _ => rfl)) pa_nil))))) pss_nil) (pss_one (ps_ret (pe_tup (pa_cons pe_str (pa_cons (pv 2) pa_nil)))))))))))), ?_⟩
  simp only [L2.start, List.length_cons, List.length_nil, List.replicate, List.cons_append, List.nil_append, Nat.reduceSub, Nat.reduceAdd, List.map_cons, List.map_nil]
  refine seq_with (fun σ G => G = H ∧ σ = [some (.ref a), some (.int n), some (.ref a), none, none, none, none, none]) ?_ (fun R hR => ?_)
  rotate_left
  · wp_walk using rRepT, tSeq, tIfS, inV, eqV
    exact hR _ _ ⟨rfl, rfl⟩
  rintro σ1 G1 ⟨rfl, rfl⟩
  refine seq_with (fun σ G => G = G1 ∧ σ = [some (.ref a), some (.int n), some (.ref a), some (.int (roomI ns)), none, none, none, none]) ?_ (fun R hR => ?_)
  rotate_left
  · wp_walk using rRepT, tSeq, tIfS, inV, eqV, splawroom
    exact ⟨ns, ha, sd, hR _ _ ⟨rfl, rfl⟩⟩
  rintro σ2 G2 ⟨rfl, rfl⟩
  have rb := room_in fun n hn => (sd n hn).1
  have g0 := grow_room hft
  generalize roomI ns = r at *
  refine seq_with (fun σ G => ∃ (o : Addr) (ms : List Int) (y3 y4 y5 : Option V), Same G2 G ∧ G o = some (.tup (ms.map V.int)) ∧ ms.length ≤ 8 ∧ (ms.take ns.length = ns → fit ms) ∧ σ = [some (.ref a), some (.int n), some (.ref o), y3, y4, y5, none, none]) ?_ (fun R hR => ?_)
  rotate_left
  · wp_walk using rRepT, tSeq, tIfS, inV, eqV
    refine ⟨by omega, by omega, ?_⟩
    refine LoopR.mk (fun i σ G => ∃ (o : Addr) (ms : List Int) (r : Int) (y4 y5 : Option V), Same G2 G ∧ G o = some (.tup (ms.map V.int)) ∧ ms.length ≤ 6 ∧ grow ms r ms.length ∧ 1 ≤ r ∧ r ≤ 512 ∧ σ = [some (.ref a), some (.int n), some (.ref o), some (.int r), y4, y5, none, none]) ⟨a, ns, r, _, _, Same.refl _, ha, l6, g0, r1, rb.2, rfl⟩ (fun i σ G hi h => ?_) (fun σ G h => ?_)
    · obtain ⟨o, ms, r, y4, y5, sG, ho, ml, gr, r0, r5, rfl⟩ := h
      wp_walk using rRepT, tSeq, tIfS, inV, eqV, Int.zero_add
      refine ⟨_, .inr (.of ho), ?_⟩
      rw [len_map]
      split
      · generalize hd : (if 3 + 4 * (i : Int) < r then 3 + 4 * (i : Int) else r) = q1
        have qb : 1 ≤ q1 ∧ q1 ≤ r := by rw [← hd]; split <;> omega
        have f := fmod_in (n := n / 48) (r := q1) (by omega)
        generalize (n / 48).fmod q1 = t at *
        have dv : 1 ≤ r / (1 + t) := div_one (by omega) (by omega)
        have gs := grow_step gr (m := 1 + t) (by omega) (by omega)
        rw [show one1 (1 + t) = 1 + t by unfold one1; rw [if_neg (by omega)]] at gs
        have dv2 : r / (1 + t) ≤ 512 := Int.le_trans (Int.ediv_le_self _ (by omega)) r5
        exact ⟨by omega, small (by decide), fun p hp => ⟨_, same_new hp _ _ _ ho, small (by rw [List.length_map]; omega), fun r1 G' s' hr => ⟨by omega, by omega, by omega, sG.trans ((same_new hp _).trans s'), r1, ms ++ [1 + t], by rw [hr, List.map_append]; rfl, by rw [List.length_append, List.length_singleton]; omega, r / (1 + t), by rw [List.length_append]; exact gs, dv, dv2, rfl, Int.fdiv_eq_ediv_of_nonneg _ (by omega), _, rfl⟩⟩⟩
      · exact ⟨sG, o, ms, ho, ml, r, gr, r0, r5, rfl, rfl, _, rfl⟩
    · obtain ⟨o, ms, r, y4, y5, sG, ho, ml, gr, r0, r5, rfl⟩ := h
      exact hR _ _ ⟨o, ms, _, _, _, sG, ho, by omega, fun _ => grow_fit gr ml, rfl⟩
  rintro σ3 G3 ⟨o, ms, y3, y4, y5, s3, ho, ml, fm, rfl⟩
  refine seq_with (fun σ G => G = G3 ∧ ∃ w : Int, σ = [some (.ref a), some (.int n), some (.ref o), y3, y4, y5, some (.int w), none]) ?_ (fun R hR => ?_)
  rotate_left
  · wp_walk using rRepT, tSeq, tIfS, inV, eqV
    exact hR _ _ ⟨rfl, _, rfl⟩
  rintro σ4 G4 ⟨rfl, w, rfl⟩
  refine seq_with (fun σ G => ∃ (o : Addr) (ms : List Int), Same G2 G ∧ G o = some (.tup (ms.map V.int)) ∧ ms.length ≤ 8 ∧ (ms.take ns.length = ns → fit ms) ∧ σ = [some (.ref a), some (.int n), some (.ref o), y3, y4, y5, some (.int w), none]) ?_ (fun R hR => ?_)
  rotate_left
  · wp_walk using rRepT, tSeq, tIfS, inV, eqV
    have keep := hR _ _ ⟨o, ms, s3, ho, ml, fm, rfl⟩
    split
    rotate_left
    · exact keep
    refine ⟨_, .inr (.of (s3 _ _ ha)), ?_⟩
    rw [len_map]
    split
    rotate_left
    · exact keep
    refine ⟨_, s3 _ _ ha, fun r G s hr => ?_⟩
    rw [cut_last] at hr
    exact hR _ _ ⟨r, _, s3.trans s, hr, by rw [List.length_take]; omega, fun z => by have := congrArg List.length z; rw [List.length_take, List.length_take] at this; omega, rfl⟩
  rintro σ5 G5 ⟨o, ms, s5, ho, ml, fm, rfl⟩
  refine seq_with (fun σ G => ∃ (o : Addr) (ms : List Int) (y7 : Option V), Same G2 G ∧ G o = some (.tup (ms.map V.int)) ∧ ms.length ≤ 9 ∧ (ms.take ns.length = ns → fit ms) ∧ σ = [some (.ref a), some (.int n), some (.ref o), y3, y4, y5, some (.int w), y7]) ?_ (fun R hR => ?_)
  rotate_left
  · wp_walk using rRepT, tSeq, tIfS, inV, eqV
    have keep := hR _ _ ⟨o, ms, none, s5, ho, by omega, fm, rfl⟩
    split
    rotate_left
    · exact keep
    refine ⟨_, .inr (.of (s5 _ _ ha)), ?_⟩
    rw [len_map]
    split
    rotate_left
    · exact keep
    refine ⟨_, s5 _ _ ha, _, at_side (k := 0) (by omega), _, rfl, ?_⟩
    split
    · refine ⟨small (by decide), fun p hp => ⟨_, same_new hp _ _ _ ho, fun r G s hr => ?_⟩⟩
      obtain ⟨us, e, ul⟩ := cut_some ms (some 1) none
      rw [e] at hr
      exact ⟨_, s _ _ upd_same, _, hr, small (by simp only [List.length_map, List.length_cons, List.length_nil]; omega), fun r2 G' s' hr2 => hR _ _ ⟨r2, 1 :: us, _, s5.trans ((same_new hp _).trans (s.trans s')), hr2, by rw [List.length_cons]; omega, fun z => by have := head_take (by omega) z; omega, rfl⟩⟩
    · refine ⟨small (by decide), fun p hp => ⟨_, same_new hp _ _ _ ho, fun r G s hr => ?_⟩⟩
      obtain ⟨us, e, ul⟩ := cut_some ms (some 1) none
      rw [e] at hr
      exact ⟨_, s _ _ upd_same, _, hr, small (by simp only [List.length_map, List.length_cons, List.length_nil]; omega), fun r2 G' s' hr2 => hR _ _ ⟨r2, (ns.getD 0 0 - 1) :: us, _, s5.trans ((same_new hp _).trans (s.trans s')), hr2, by rw [List.length_cons]; omega, fun z => by have := head_take (by omega) z; omega, rfl⟩⟩
  rintro σ6 G6 ⟨o, ms, y7, s6, ho, ml, fm, rfl⟩
  refine seq_with (fun σ G => ∃ (o : Addr) (ms : List Int), Same G2 G ∧ G o = some (.tup (ms.map V.int)) ∧ ms.length ≤ 10 ∧ (ms.take ns.length = ns → fit ms) ∧ σ = [some (.ref a), some (.int n), some (.ref o), y3, y4, y5, some (.int w), y7]) ?_ (fun R hR => ?_)
  rotate_left
  · wp_walk using rRepT, tSeq, tIfS, inV, eqV
    have keep := hR _ _ ⟨o, ms, s6, ho, by omega, fm, rfl⟩
    split
    rotate_left
    · exact keep
    refine ⟨_, .inr (.of (s6 _ _ ha)), ?_⟩
    rw [len_map]
    split
    rotate_left
    · exact keep
    obtain ⟨z, ez⟩ := at_last (ns := ns) (by omega)
    refine ⟨_, s6 _ _ ha, _, at_side (k := 0) (by omega), _, s6 _ _ ha, _, ez, rfl, ?_⟩
    split
    rotate_left
    · exact keep
    rename_i cz
    refine ⟨_, s6 _ _ ha, _, ez, small (by decide), fun p hp => ⟨_, same_new hp _ _ _ (s6 _ _ ha), fun r G s hr => ?_⟩⟩
    obtain ⟨us, e, ul⟩ := cut_some ns (some 1) (some (-1))
    rw [e] at hr
    refine ⟨_, s _ _ upd_same, _, hr, small (by simp only [List.length_map, List.length_cons, List.length_nil]; omega), fun r2 G' s' hr2 => ?_⟩
    have k2 := s6.trans ((same_new hp (.tup [V.int z])).trans (s.trans s'))
    refine ⟨_, k2 _ _ ha, _, at_side (k := 0) (by omega), small (by decide), fun p2 hp2 => ⟨_, same_new hp2 _ _ _ hr2, small (by simp only [List.length_append, List.length_map, List.length_cons, List.length_nil]; omega), fun r3 G3 s3' hr3 => hR _ _ ⟨r3, z :: us ++ [ns.getD 0 0], k2.trans ((same_new hp2 _).trans s3'), by rw [hr3, List.map_append]; rfl, by rw [List.length_append, List.length_cons, List.length_singleton]; omega, fun w => absurd (congrArg V.int (head_take (by omega) w).symm) cz, rfl⟩⟩⟩
  rintro σ7 G7 ⟨o, ms, s7, ho, ml, fm, rfl⟩
  wp_walk using rRepT, tSeq, tIfS, inV, eqV
  exact ⟨small (by decide), fun p hp => q _ p (.lead ms) (s7.trans (same_new hp _)) ⟨o, upd_same, same_new hp _ _ _ ho, ml⟩ fm⟩
end
abbrev slawdoing : Stmt := top 41
def splawdoing : Sp := fun vs H Q _ => ∃ (a : Addr) (ns : List Int) (one : Int), vs = [.ref a, .int one, .int 6] ∧ H a = some (.tup (ns.map V.int)) ∧ (∀ z ∈ ns, 0 ≤ z ∧ z ≤ 512) ∧ sdOk ns ∧ ns.length ≤ 6 ∧ 1 ≤ roomI ns ∧ fit ns ∧ ∀ H' p d, Same H H' → DgAt H' p d → ledOk ns d → Q (.ref p) H'
section
variable {P : Program} {w : World} {K : PySem.W.Frag} {mg : Str → Option Value} {base : Heap} {f : Addr} {fd : FuncData}
theorem sclawdoing : FnScope ["sides", "one", "kinds", "n", "kind", "count", "side"] ["sides", "one", "kinds"] (defScope slawdoing) := ⟨rfl, rfl, rfl, by decide +kernel, rfl, by decide +kernel, by decide +kernel⟩
theorem oklawdoing (F : Fun K "_law_doing" "_law_doing" slawdoing f fd) (claworder : Callee P w K mg base CX0 (2) "_law_order" ["n", "count"] splaworder) (clawcut : Callee P w K mg base CX0 (2) "_law_cut" ["sides", "side", "n"] splawcut) (clawspread : Callee P w K mg base CX0 (2) "_law_spread" ["sides", "side", "n"] splawspread) (clawlonger : Callee P w K mg base CX0 (2) "_law_longer" ["sides", "n"] splawlonger) (zlen : mg "len" = none) : FnOk P w K mg base CX0 (3) f fd ["sides", "one", "kinds"] (splawdoing) := by
  have sc := sclawdoing
  refine F.ok sc (fun vs H Q E h => ?_) (fun cdv A outer s H vs Q E hr h => ?_)
  · obtain ⟨a, ns, one, rfl, _⟩ := h; rfl
  obtain ⟨a, ns, one, rfl, ha, zb, sd, l6, r1, hft, q⟩ := h
  refine ⟨_, (pss_cons (ps_set (i := 3) sc.nd rfl (by first | exact Or.inl rfl | exact Or.inr rfl) (pe_op op_mod (pe_op op_mul (pv 1) pe_int) (pe_op op_sub (pe_op op_pow pe_int pe_int) pe_int))) (pss_cons (ps_set (i := 4) sc.nd rfl (by first | exact Or.inl rfl | exact Or.inr rfl) (pe_op op_modN (pv 3) (pv 2))) (pss_cons (ps_set (i := 3) sc.nd rfl (by first | exact Or.inl rfl | exact Or.inr rfl) (pe_op op_fdivW (pv 3) (pv 2))) (pss_cons (ps_set (i := 5) sc.nd rfl (by first | exact Or.inl rfl | exact Or.inr rfl) (pe_callB call_len_seq (by rfl) zlen PySem.boot_len (pa_cons (pv 0) pa_nil))) (pss_cons (ps_set (i := 6) sc.nd rfl (by first | exact Or.inl rfl | exact Or.inr rfl) (pe_op op_sub (pe_op op_modN (pv 3) (pe_op op_add (pv 5) pe_int)) pe_int)) (pss_cons (ps_if (pw_and (pt_cmpR op_gt (pe_op op_mod (pe_op op_fdiv (pv 3) pe_int) pe_int) pe_int (nomark _)) (pw_and1 (pt_cmpR op_gt (pv 5) pe_int (nomark _)))).pt (pss_one (ps_set (i := 6) sc.nd rfl (by first | exact Or.inl rfl | exact Or.inr rfl) (pe_op op_modN (pv 3) (pv 5)))) pss_nil) (pss_cons (ps_if (pw_and (pt_cmpR op_gt (pe_op op_mod (pe_op op_fdiv (pv 3) pe_int) pe_int) pe_int (nomark _)) (pw_and1 (pt_cmpR op_eq (pv 4) pe_int (nomark _)))).pt (pss_one (ps_set (i := 6) sc.nd rfl (by first | exact Or.inl rfl | exact Or.inr rfl) (pe_op op_modN (pv 3) (pe_op op_add (pv 5) pe_int)))) pss_nil) (pss_cons (ps_set (i := 3) sc.nd rfl (by first | exact Or.inl rfl | exact Or.inr rfl) (pe_op op_fdiv (pv 3) pe_int)) (pss_cons (ps_if (pt_cmpR op_eq (pv 4) pe_int (nomark _)) (pss_one (ps_ret (pe_tup (pa_cons pe_str (pa_cons (pe_cal claworder hr (by rfl) pass0 (pa_cons (pv 3) (pa_cons (pv 5) pa_nil))) pa_nil))))) pss_nil) (pss_cons (ps_if (pt_cmpR op_eq (pv 4) pe_int (nomark _)) (pss_one (ps_ret (pe_tup (pa_cons pe_str (pa_cons (pv 6) pa_nil))))) pss_nil) (pss_cons (ps_if (pt_cmpR op_eq (pv 4) pe_int (nomark _)) (pss_one (ps_ret (pe_cal clawcut hr (by rfl) pass0 (pa_cons (pv 0) (pa_cons (pv 6) (pa_cons (pv 3) pa_nil)))))) pss_nil) (pss_cons (ps_if (pt_cmpR op_eq (pv 4) pe_int (nomark _)) (pss_one (ps_ret (pe_cal clawspread hr (by rfl) pass0 (pa_cons (pv 0) (pa_cons (pv 6) (pa_cons (pv 3) pa_nil)))))) pss_nil) (pss_cons (ps_if (pt_cmpR op_eq (pv 4) pe_int (nomark _)) (pss_one (ps_ret (pe_cal clawlonger hr (by rfl) pass0 (pa_cons (pv 0) (pa_cons (pv 3) pa_nil))))) pss_nil) (pss_one (ps_ret (pe_tup (pa_cons pe_str (pa_cons (pv 6) pa_nil)))))))))))))))))), ?_⟩
  simp only [L2.start, List.length_cons, List.length_nil, List.replicate, List.cons_append, List.nil_append, Nat.reduceSub, Nat.reduceAdd, List.map_cons, List.map_nil]
  refine seq_with (fun σ G => G = H ∧ ∃ n, smN n ∧ σ = [some (.ref a), some (.int one), some (.int 6), some (.int n), none, none, none]) ?_ (fun R hR => ?_)
  rotate_left
  · wp_walk using rRepT, tSeq, tIfS, inV, eqV
    exact hR _ _ ⟨rfl, _, ⟨by omega, by omega⟩, rfl⟩
  rintro σ1 G1 ⟨rfl, n, hn, rfl⟩
  refine seq_with (fun σ G => G = G1 ∧ ∃ kd : Int, σ = [some (.ref a), some (.int one), some (.int 6), some (.int n), some (.int kd), none, none]) ?_ (fun R hR => ?_)
  rotate_left
  · wp_walk using rRepT, tSeq, tIfS, inV, eqV
    exact ⟨by decide, hR _ _ ⟨rfl, _, rfl⟩⟩
  rintro σ2 G2 ⟨rfl, kd, rfl⟩
  refine seq_with (fun σ G => G = G2 ∧ ∃ n, smN n ∧ σ = [some (.ref a), some (.int one), some (.int 6), some (.int n), some (.int kd), none, none]) ?_ (fun R hR => ?_)
  rotate_left
  · wp_walk using rRepT, tSeq, tIfS, inV, eqV
    refine ⟨by decide, hR _ _ ⟨rfl, _, ?_, rfl⟩⟩
    rw [Int.fdiv_eq_ediv_of_nonneg n (show (0 : Int) ≤ 6 by decide)]
    unfold smN at *
    omega
  rintro σ3 G3 ⟨rfl, n, hn, rfl⟩
  refine seq_with (fun σ G => G = G3 ∧ σ = [some (.ref a), some (.int one), some (.int 6), some (.int n), some (.int kd), some (.int ns.length), none]) ?_ (fun R hR => ?_)
  rotate_left
  · wp_walk using rRepT, tSeq, tIfS, inV, eqV
    refine ⟨_, .inr (.of ha), ?_⟩
    rw [len_map]
    exact hR _ _ ⟨rfl, rfl⟩
  rintro σ4 G4 ⟨rfl, rfl⟩
  have cb : 0 ≤ (ns.length : Int) := Int.natCast_nonneg _
  generalize hc : (ns.length : Int) = c at *
  refine seq_with (fun σ G => G = G4 ∧ ∃ side : Int, σ = [some (.ref a), some (.int one), some (.int 6), some (.int n), some (.int kd), some (.int c), some (.int side)]) ?_ (fun R hR => ?_)
  rotate_left
  · wp_walk using rRepT, tSeq, tIfS, inV, eqV
    exact ⟨by omega, hR _ _ ⟨rfl, _, rfl⟩⟩
  rintro σ5 G5 ⟨rfl, side, rfl⟩
  refine seq_with (fun σ G => G = G5 ∧ ∃ side : Int, σ = [some (.ref a), some (.int one), some (.int 6), some (.int n), some (.int kd), some (.int c), some (.int side)]) ?_ (fun R hR => ?_)
  rotate_left
  · wp_walk using rRepT, tSeq, tIfS, inV, eqV
    have keep := hR _ _ ⟨rfl, side, rfl⟩
    split
    · split
      · exact ⟨by omega, hR _ _ ⟨rfl, _, rfl⟩⟩
      · exact keep
    · exact keep
  rintro σ6 G6 ⟨rfl, side, rfl⟩
  refine seq_with (fun σ G => G = G6 ∧ ∃ side : Int, σ = [some (.ref a), some (.int one), some (.int 6), some (.int n), some (.int kd), some (.int c), some (.int side)]) ?_ (fun R hR => ?_)
  rotate_left
  · wp_walk using rRepT, tSeq, tIfS, inV, eqV
    have keep := hR _ _ ⟨rfl, side, rfl⟩
    split
    · split
      · exact ⟨by omega, hR _ _ ⟨rfl, _, rfl⟩⟩
      · exact keep
    · exact keep
  rintro σ7 G7 ⟨rfl, side, rfl⟩
  refine seq_with (fun σ G => G = G7 ∧ ∃ n, smN n ∧ σ = [some (.ref a), some (.int one), some (.int 6), some (.int n), some (.int kd), some (.int c), some (.int side)]) ?_ (fun R hR => ?_)
  rotate_left
  · wp_walk using rRepT, tSeq, tIfS, inV, eqV
    exact hR _ _ ⟨rfl, _, by unfold smN at *; omega, rfl⟩
  rintro σ8 G8 ⟨rfl, n, hn, rfl⟩
  wp_walk using rRepT, tSeq, tIfS, inV, eqV, splaworder, splawcut, splawspread, splawlonger
  split
  · exact ⟨ns.length, hc.symm, l6, fun G p os s ol hp => ⟨small (by decide), fun p1 hp1 => q _ p1 (.turn os) (s.trans (same_new hp1 _)) ⟨p, upd_same, same_new hp1 _ _ _ hp, ol⟩ trivial⟩⟩
  split
  · exact ⟨small (by decide), fun p hp => q _ p (.flip side) (same_new hp _) upd_same trivial⟩
  split
  · exact ⟨ns, ha, zb, hn, fun G p f m g s h1 h2 h3 h4 hp => q _ p (.cut side f m g) s ⟨hp, h1, h2, h3, h4⟩ trivial⟩
  split
  · exact ⟨ns, ha, sd, r1, hn, fun G p m s h1 h2 hp => q _ p (.spread side m) s ⟨hp, h1, h2⟩ trivial⟩
  split
  · exact ⟨ns, ha, sd, l6, r1, hft, hn, q⟩
  · exact ⟨small (by decide), fun p hp => q _ p (.inner side) (same_new hp _) upd_same trivial⟩
end
abbrev slawbehind : Stmt := top 42
section
variable {P : Program} {w : World} {K : PySem.W.Frag} {mg : Str → Option Value} {base : Heap} {f : Addr} {fd : FuncData}
theorem sclawbehind : FnScope ["sides", "doing", "kind", "side"] ["sides", "doing"] (defScope slawbehind) := ⟨rfl, rfl, rfl, by decide +kernel, rfl, by decide +kernel, by decide +kernel⟩
theorem oklawbehind (F : Fun K "_law_behind" "_law_behind" slawbehind f fd) (clawroom : Callee P w K mg base CX0 (1) "_law_room" ["sides"] splawroom) (zsorted : mg "sorted" = none) (zlist : mg "list" = none) (zrange : mg "range" = none) (zlen : mg "len" = none) (ztuple : mg "tuple" = none) : FnOk P w K mg base CX0 (2) f fd ["sides", "doing"] (spbehind) := by
  have sc := sclawbehind
  refine F.ok sc (fun vs H Q E h => ?_) (fun cdv A outer s H vs Q E hr h => ?_)
  · obtain ⟨a, p, ns, d, rfl, _⟩ := h; rfl
  obtain ⟨a, p, ns, d, rfl, ha, sd, nb, hd, q⟩ := h
  refine ⟨_, (pss_cons (ps_set (i := 2) sc.nd rfl (by first | exact Or.inl rfl | exact Or.inr rfl) (pe_ix ix_tupH (pv 1) pe_int (fun _ _ => rfl))) (pss_cons (ps_if (pt_cmpR op_eq (pv 2) pe_str (nomark _)) (pss_cons (ps_if (pt_cmpR (op_neL hr.units0) (pe_callB call_sortedI (by rfl) zsorted boot_sorted (pa_cons (pe_ix ix_tupH (pv 1) pe_int (fun _ _ => rfl)) pa_nil)) (pe_callTy (call_listRng rfl) (by rfl) zlist boot_list (pa_cons (pe_callTy call_rangeV (by rfl) zrange boot_range (pa_cons (pe_callB call_len_seq (by rfl) zlen PySem.boot_len (pa_cons (pv 0) pa_nil)) pa_nil)) pa_nil)) (nomark _)) (pss_one (ps_ret (pe_tup (pa_cons (pv 0) (pa_cons pe_str pa_nil))))) pss_nil) (pss_one (ps_ret (pe_tup (pa_cons (pe_callTy call_tuple_of (by rfl) ztuple boot_tuple (pa_cons (pe_comp (own := ["k"]) (fv := ["sides"]) (js := [0]) rfl (pi_tup (pe_ix ix_tupH (pv 1) pe_int (fun _ _ => rfl))) rfl (by decide) rfl (by decide) (by first | exact fun _ _ h => h | exact cl_sub1 rfl | exact cl_sub2 rfl rfl | exact cl_sub3 rfl rfl rfl) (has_of (by rfl)) rfl (cap1 (by first | exact ⟨rfl, .inl rfl, .inl rfl⟩ | exact ⟨rfl, .inl rfl, .inr rfl⟩)) (fun _ _ _ _ => (pg_name (i := 0) (show (["k", "sides"] : List Str).Nodup by decide +kernel) rfl (Or.inl rfl))) (fun _ _ _ _ => (pe_ix ix_tupH (pv 1) (pv 0) (fun _ _ => rfl)))) pa_nil)) (pa_cons pe_str pa_nil)))))) pss_nil) (pss_cons (ps_if (pt_cmpR op_eq (pv 2) pe_str (nomark _)) (pss_cons (ps_if (pt_cmpR (op_neT hr.units0) (pe_slice sl_tupA (pe_ix ix_tupH (pv 1) pe_int (fun _ _ => rfl)) po_none (po_some (pe_callB call_len_seq (by rfl) zlen PySem.boot_len (pa_cons (pv 0) pa_nil)))) (pv 0) (nomark _)) (pss_one (ps_ret (pe_tup (pa_cons (pv 0) (pa_cons pe_str pa_nil))))) pss_nil) (pss_one (ps_ret (pe_tup (pa_cons (pe_ix ix_tupH (pv 1) pe_int (fun _ _ => rfl)) (pa_cons pe_str pa_nil)))))) pss_nil) (pss_cons (ps_set (i := 3) sc.nd rfl (by first | exact Or.inl rfl | exact Or.inr rfl) (pe_ix ix_tupH (pv 1) pe_int (fun _ _ => rfl))) (pss_cons (ps_if (pw_or (pt_cmpR op_lt (pv 3) pe_int (nomark _)) (pw_or (pt_cmpR op_gt (pv 3) (pe_callB call_len_seq (by rfl) zlen PySem.boot_len (pa_cons (pv 0) pa_nil)) (nomark _)) (pw_or1 (pw_and (pt_cmpR op_eq (pv 3) (pe_callB call_len_seq (by rfl) zlen PySem.boot_len (pa_cons (pv 0) pa_nil)) (nomark _)) (pw_and1 (pt_cmpR op_ne (pv 2) pe_str (nomark _)))).pt))).pt (pss_one (ps_ret (pe_tup (pa_cons (pv 0) (pa_cons pe_str pa_nil))))) pss_nil) (pss_cons (ps_if (pt_cmpR op_eq (pv 2) pe_str (nomark _)) (pss_cons (ps_if (pt_cmpR op_lt (pe_ix ix_tupH (pv 1) pe_int (fun _ _ => rfl)) pe_int (nomark _)) (pss_one (ps_ret (pe_tup (pa_cons (pv 0) (pa_cons pe_str pa_nil))))) pss_nil) (pss_cons (ps_if (pw_or (pt_cmpR op_eq (pe_callB call_len_seq (by rfl) zlen PySem.boot_len (pa_cons (pv 0) pa_nil)) pe_int (nomark _)) (pw_or1 (pt_cmpR op_lt (pe_cal clawroom hr (by rfl) pass0 (pa_cons (pv 0) pa_nil)) (pe_ix ix_tupH (pv 1) pe_int (fun _ _ => rfl)) (nomark _)))).pt (pss_one (ps_ret (pe_tup (pa_cons (pv 0) (pa_cons pe_str pa_nil))))) pss_nil) (pss_one (ps_ret (pe_tup (pa_cons (pe_op op_catS (pe_op op_catS (pe_slice sl_tupA (pv 0) po_none (po_some (pv 3))) (pe_tup (pa_cons (pe_ix ix_tupH (pv 1) pe_int (fun _ _ => rfl)) pa_nil))) (pe_slice sl_tupA (pv 0) (po_some (pv 3)) po_none)) (pa_cons pe_str pa_nil))))))) pss_nil) (pss_cons (ps_if (pt_cmpR op_eq (pv 2) pe_str (nomark _)) (pss_one (ps_ret (pe_tup (pa_cons (pe_op op_catS (pe_slice sl_tupA (pv 0) po_none (po_some (pv 3))) (pe_slice sl_tupA (pv 0) (po_some (pe_op op_add (pv 3) pe_int)) po_none)) (pa_cons pe_str pa_nil))))) pss_nil) (pss_cons (ps_if (pt_cmpR op_eq (pv 2) pe_str (nomark _)) (pss_one (ps_ret (pe_tup (pa_cons (pv 0) (pa_cons pe_str pa_nil))))) pss_nil) (pss_cons (ps_if (pw_or (pt_cmpR op_lt (pe_ix ix_tupH (pv 1) pe_int (fun _ _ => rfl)) pe_int (nomark _)) (pw_or (pt_cmpR op_lt (pe_ix ix_tupH (pv 1) pe_int (fun _ _ => rfl)) pe_int (nomark _)) (pw_or1 (pt_cmpR op_lt (pe_ix ix_tupH (pv 1) pe_int (fun _ _ => rfl)) pe_int (nomark _))))).pt (pss_one (ps_ret (pe_tup (pa_cons (pv 0) (pa_cons pe_str pa_nil))))) pss_nil) (pss_cons (ps_if (pw_and (pt_cmpR op_gt (pe_ix ix_tupH (pv 1) pe_int (fun _ _ => rfl)) pe_int (nomark _)) (pw_and1 (pt_cmpR op_ge (pe_op op_add (pe_ix ix_tupH (pv 1) pe_int (fun _ _ => rfl)) (pe_op op_mul (pe_op op_sub (pe_ix ix_tupH (pv 1) pe_int (fun _ _ => rfl)) pe_int) (pe_ix ix_tupH (pv 1) pe_int (fun _ _ => rfl)))) (pe_ix ix_tupH (pv 0) (pv 3) (fun _ _ => rfl)) (nomark _)))).pt (pss_one (ps_ret (pe_tup (pa_cons (pv 0) (pa_cons pe_str pa_nil))))) pss_nil) (pss_one (ps_ret (pe_tup (pa_cons (pe_op op_catS (pe_op op_catS (pe_slice sl_tupA (pv 0) po_none (po_some (pv 3))) (pe_tup (pa_cons (pe_ix ix_tupH (pv 1) pe_int (fun _ _ => rfl)) pa_nil))) (pe_slice sl_tupA (pv 0) (po_some (pe_op op_add (pv 3) pe_int)) po_none)) (pa_cons pe_str pa_nil))))))))))))))), ?_⟩
  simp only [L2.start, List.length_cons, List.length_nil, List.replicate, List.cons_append, List.nil_append, Nat.reduceSub, Nat.reduceAdd, List.map_cons, List.map_nil]
  refine seq_with (fun σ G => G = H ∧ ∃ kd, σ = [some (.ref a), some (.ref p), some (.str kd), none] ∧ (match d with | .turn _ => kd = "turn" | .flip _ => kd = "flip" | .cut .. => kd = "cut" | .spread .. => kd = "spread" | .lead _ => kd = "lead" | .inner _ => kd = "inner")) ?_ (fun R hR => ?_)
  rotate_left
  · wp_walk using rRepT, tSeq, tIfS, inV, eqV
    cases d with
    | turn os => obtain ⟨b, hp, _⟩ := hd; exact ⟨_, hp, _, atI_nat (j := 0) rfl, hR _ _ ⟨rfl, _, rfl, rfl⟩⟩
    | lead os => obtain ⟨b, hp, _⟩ := hd; exact ⟨_, hp, _, atI_nat (j := 0) rfl, hR _ _ ⟨rfl, _, rfl, rfl⟩⟩
    | flip side => exact ⟨_, hd, _, atI_nat (j := 0) rfl, hR _ _ ⟨rfl, _, rfl, rfl⟩⟩
    | inner side => exact ⟨_, hd, _, atI_nat (j := 0) rfl, hR _ _ ⟨rfl, _, rfl, rfl⟩⟩
    | cut side f m g => exact ⟨_, hd.1, _, atI_nat (j := 0) rfl, hR _ _ ⟨rfl, _, rfl, rfl⟩⟩
    | spread side m => exact ⟨_, hd.1, _, atI_nat (j := 0) rfl, hR _ _ ⟨rfl, _, rfl, rfl⟩⟩
  rintro σ1 G1 ⟨rfl, kd, rfl, hk⟩
  have l6 : ns.length ≤ 6 := by unfold bigI at nb; omega
  cases d with
  | turn os =>
    cases hk
    obtain ⟨b, hp, hb, ol⟩ := hd
    refine seq_with (fun σ G => False) (fun σ G h => h.elim) (fun R hR => ?_)
    clear hR
    wp_walk using rRepT, tSeq, tIfS, inV, eqV
    refine ⟨_, hp, _, atI_nat (j := 1) rfl, _, rfl, os, .inr (.of hb), by omega, fun ss pm pw l1 hl1 => ⟨_, .inr (.of (same_new hl1 _ _ _ ha)), fun r hr => ⟨ns.length, by rw [len_map]; rfl, by omega, fun l2 hl2 => ?_⟩⟩⟩
    have t1 := same_new hl1 (.lst (ss.map V.int))
    have t2 := t1.trans (same_new hr (.rng 0 (((ns.map V.int).length : Nat) : Int)))
    have t3 := t2.trans (same_new hl2 (.lst ((upL ns.length).map V.int)))
    refine ⟨_, .of (same_new hl2 _ _ _ (same_new hr _ _ _ upd_same)), _, .of upd_same, flat_ints _, flat_ints _, ?_⟩
    rw [eqVs_dec]
    by_cases c : ss = upL ns.length
    rotate_left
    · rw [decide_eq_false c, if_pos rfl]
      exact ⟨small (by decide), ret_flt q t3 (if_neg fun z => c ((turn_sorted pm pw).mpr z))⟩
    have tk := (turn_sorted (n := ns.length) pm pw).mp c
    rw [decide_eq_true c, if_neg (by decide)]
    have ha3 := t3 _ _ ha
    have hb3 := t3 _ _ hb
    have hp3 := t3 _ _ hp
    generalize upd (upd (upd G1 l1 (HO.lst (List.map V.int ss))) r (HO.rng 0 (((ns.map V.int).length : Nat) : Int))) l2 (HO.lst (List.map V.int (upL ns.length))) = H3 at *
    refine ⟨_, hp3, _, atI_nat (j := 1) rfl, ?_⟩
    refine CompT.mk (xs := os.map V.int) (.of hb3) (fun i ys σ H' => H' = H3 ∧ i ≤ os.length ∧ ys = (turnL ns (os.take i)).map V.int ∧ ∃ y, σ = [y, some (.ref a)]) ⟨rfl, Nat.zero_le _, rfl, _, rfl⟩ (fun i ys σ H' _ h => by rw [h.1]; exact .of hb3) (fun i x ys σ H' e h => ?_) (fun ys σ H' h p1 hp1 => ?_)
    · obtain ⟨rfl, hi, rfl, y, rfl⟩ := h
      obtain ⟨o, rfl, ho⟩ := int_at e
      have il := (List.getElem?_eq_some_iff.mp ho).1
      have om := up_mem.mp (tk.subset (List.mem_of_getElem? ho))
      have e1 : (turnL ns (os.take (i + 1))).map V.int = (turnL ns (os.take i)).map V.int ++ [V.int (ns.getD o.toNat 0)] := by
        unfold turnL; rw [List.take_add_one, ho, List.map_append, List.map_append]; rfl
      have sm : ((turnL ns (os.take i)).map V.int).length < sizeLine := by unfold turnL; rw [List.length_map, List.length_map, List.length_take]; exact small1000 (by omega)
      wp_walk using rRepT, tSeq, tIfS, inV, eqV, e1
      exact ⟨sm, _, ha3, _, at_in om.1 om.2, il, rfl, _, rfl⟩
    · obtain ⟨rfl, hi, rfl, y, rfl⟩ := h
      rw [len_map, List.take_length]
      exact ⟨p1, rfl, _, .inl ⟨.of upd_same, fun l hl => ⟨small (by decide), ret_ok q (t3.trans ((same_new hp1 _).trans (same_new hl _))) (if_pos tk) upd_same⟩⟩⟩
  | lead ms =>
    cases hk
    obtain ⟨b, hp, hb, ml⟩ := hd
    refine seq_with (fun σ G => G = G1 ∧ σ = [some (.ref a), some (.ref p), some (.str (Str.ofString "lead")), none]) ?_ (fun R hR => ?_)
    rotate_left
    · wp_walk using rRepT, tSeq, tIfS, inV, eqV
      rw [if_neg (show ¬ Str.ofString "lead" = Str.ofString "turn" by decide +kernel)]
      exact hR _ _ ⟨rfl, rfl⟩
    rintro σ2 G2 ⟨rfl, rfl⟩
    refine seq_with (fun σ G => False) (fun σ G h => h.elim) (fun R hR => ?_)
    clear hR
    wp_walk using rRepT, tSeq, tIfS, inV, eqV
    refine ⟨_, hp, _, atI_nat (j := 1) rfl, _, .inr (.of ha), _, rfl, _, hb, fun r G s hr => ?_⟩
    rw [len_map, cut_any] at hr
    refine ⟨_, .of hr, _, .of (s _ _ ha), flat_ints _, flat_ints _, ?_⟩
    rw [eqVs_dec]
    by_cases c : ms.take ns.length = ns
    · rw [decide_eq_true c, if_neg (by decide)]
      exact ⟨_, s _ _ hp, _, atI_nat (j := 1) rfl, small (by decide), ret_ok q s (if_pos c) (s _ _ hb)⟩
    · rw [decide_eq_false c, if_pos rfl]
      exact ⟨small (by decide), ret_flt q s (if_neg c)⟩
  | flip side =>
    cases hk
    have hp : G1 p = some (.tup [.str (Str.ofString "flip"), .int side]) := hd
    refine seq_with (fun σ G => G = G1 ∧ σ = [some (.ref a), some (.ref p), some (.str (Str.ofString "flip")), none]) ?_ (fun R hR => ?_)
    rotate_left
    · wp_walk using rRepT, tSeq, tIfS, inV, eqV
      rw [if_neg (show ¬ Str.ofString "flip" = Str.ofString "turn" by decide +kernel)]
      exact hR _ _ ⟨rfl, rfl⟩
    rintro σ2 G2 ⟨rfl, rfl⟩
    refine seq_with (fun σ G => G = G2 ∧ σ = [some (.ref a), some (.ref p), some (.str (Str.ofString "flip")), none]) ?_ (fun R hR => ?_)
    rotate_left
    · wp_walk using rRepT, tSeq, tIfS, inV, eqV
      rw [if_neg (show ¬ Str.ofString "flip" = Str.ofString "lead" by decide +kernel)]
      exact hR _ _ ⟨rfl, rfl⟩
    rintro σ3 G3 ⟨rfl, rfl⟩
    refine seq_with (fun σ G => G = G3 ∧ σ = [some (.ref a), some (.ref p), some (.str (Str.ofString "flip")), some (.int side)]) ?_ (fun R hR => ?_)
    rotate_left
    · wp_walk using rRepT, tSeq, tIfS, inV, eqV
      exact ⟨_, hp, _, atI_nat (j := 1) rfl, hR _ _ ⟨rfl, rfl⟩⟩
    rintro σ4 G4 ⟨rfl, rfl⟩
    refine seq_with (fun σ G => G = G4 ∧ ¬ off ns side ∧ σ = [some (.ref a), some (.ref p), some (.str (Str.ofString "flip")), some (.int side)]) ?_ (fun R hR => ?_)
    rotate_left
    · wp_walk using rRepT, tSeq, tIfS, inV, eqV
      have no : off ns side → 2 ≤ sizeLine ∧ ∀ r, G4 r = none → Q (V.ref r) (upd G4 r (HO.tup [V.ref a, V.str (Str.ofString "side")])) := fun o => ⟨small (by decide), ret_flt q (Same.refl _) (if_pos o)⟩
      split
      · rename_i c; exact no (.inl c)
      refine ⟨_, .inr (.of ha), ?_⟩
      rw [len_map]
      split
      · rename_i c; exact no (.inr (by omega))
      refine ⟨_, .inr (.of ha), ?_⟩
      rw [len_map]
      split
      · rename_i c
        rw [if_pos (show ¬ Str.ofString "flip" = Str.ofString "spread" by decide +kernel)]
        exact no (.inr (by omega))
      · exact hR _ _ ⟨rfl, by unfold off; omega, rfl⟩
    rintro σ5 G5 ⟨rfl, no, rfl⟩
    refine seq_with (fun σ G => G = G5 ∧ σ = [some (.ref a), some (.ref p), some (.str (Str.ofString "flip")), some (.int side)]) ?_ (fun R hR => ?_)
    rotate_left
    · wp_walk using rRepT, tSeq, tIfS, inV, eqV
      rw [if_neg (show ¬ Str.ofString "flip" = Str.ofString "spread" by decide +kernel)]
      exact hR _ _ ⟨rfl, rfl⟩
    rintro σ6 G6 ⟨rfl, rfl⟩
    refine seq_with (fun σ G => G = G6 ∧ σ = [some (.ref a), some (.ref p), some (.str (Str.ofString "flip")), some (.int side)]) ?_ (fun R hR => ?_)
    rotate_left
    · wp_walk using rRepT, tSeq, tIfS, inV, eqV
      rw [if_neg (show ¬ Str.ofString "flip" = Str.ofString "inner" by decide +kernel)]
      exact hR _ _ ⟨rfl, rfl⟩
    rintro σ7 G7 ⟨rfl, rfl⟩
    refine seq_with (fun σ G => False) (fun σ G h => h.elim) (fun R hR => ?_)
    clear hR
    wp_walk using rRepT, tSeq, tIfS, inV, eqV
    exact ⟨small (by decide), ret_ok q (Same.refl _) (if_neg no) ha⟩
  | inner side =>
    cases hk
    have hp : G1 p = some (.tup [.str (Str.ofString "inner"), .int side]) := hd
    refine seq_with (fun σ G => G = G1 ∧ σ = [some (.ref a), some (.ref p), some (.str (Str.ofString "inner")), none]) ?_ (fun R hR => ?_)
    rotate_left
    · wp_walk using rRepT, tSeq, tIfS, inV, eqV
      rw [if_neg (show ¬ Str.ofString "inner" = Str.ofString "turn" by decide +kernel)]
      exact hR _ _ ⟨rfl, rfl⟩
    rintro σ2 G2 ⟨rfl, rfl⟩
    refine seq_with (fun σ G => G = G2 ∧ σ = [some (.ref a), some (.ref p), some (.str (Str.ofString "inner")), none]) ?_ (fun R hR => ?_)
    rotate_left
    · wp_walk using rRepT, tSeq, tIfS, inV, eqV
      rw [if_neg (show ¬ Str.ofString "inner" = Str.ofString "lead" by decide +kernel)]
      exact hR _ _ ⟨rfl, rfl⟩
    rintro σ3 G3 ⟨rfl, rfl⟩
    refine seq_with (fun σ G => G = G3 ∧ σ = [some (.ref a), some (.ref p), some (.str (Str.ofString "inner")), some (.int side)]) ?_ (fun R hR => ?_)
    rotate_left
    · wp_walk using rRepT, tSeq, tIfS, inV, eqV
      exact ⟨_, hp, _, atI_nat (j := 1) rfl, hR _ _ ⟨rfl, rfl⟩⟩
    rintro σ4 G4 ⟨rfl, rfl⟩
    refine seq_with (fun σ G => G = G4 ∧ ¬ off ns side ∧ σ = [some (.ref a), some (.ref p), some (.str (Str.ofString "inner")), some (.int side)]) ?_ (fun R hR => ?_)
    rotate_left
    · wp_walk using rRepT, tSeq, tIfS, inV, eqV
      have no : off ns side → 2 ≤ sizeLine ∧ ∀ r, G4 r = none → Q (V.ref r) (upd G4 r (HO.tup [V.ref a, V.str (Str.ofString "side")])) := fun o => ⟨small (by decide), ret_flt q (Same.refl _) (if_pos o)⟩
      split
      · rename_i c; exact no (.inl c)
      refine ⟨_, .inr (.of ha), ?_⟩
      rw [len_map]
      split
      · rename_i c; exact no (.inr (by omega))
      refine ⟨_, .inr (.of ha), ?_⟩
      rw [len_map]
      split
      · rename_i c
        rw [if_pos (show ¬ Str.ofString "inner" = Str.ofString "spread" by decide +kernel)]
        exact no (.inr (by omega))
      · exact hR _ _ ⟨rfl, by unfold off; omega, rfl⟩
    rintro σ5 G5 ⟨rfl, no, rfl⟩
    refine seq_with (fun σ G => G = G5 ∧ σ = [some (.ref a), some (.ref p), some (.str (Str.ofString "inner")), some (.int side)]) ?_ (fun R hR => ?_)
    rotate_left
    · wp_walk using rRepT, tSeq, tIfS, inV, eqV
      rw [if_neg (show ¬ Str.ofString "inner" = Str.ofString "spread" by decide +kernel)]
      exact hR _ _ ⟨rfl, rfl⟩
    rintro σ6 G6 ⟨rfl, rfl⟩
    refine seq_with (fun σ G => False) (fun σ G h => h.elim) (fun R hR => ?_)
    clear hR
    wp_walk using rRepT, tSeq, tIfS, inV, eqV
    have nf : fltD ns (.inner side) = none := if_neg no
    obtain ⟨k, rfl, kl⟩ := side_nat no
    refine ⟨_, ha, fun r1 K1 s1 h1 => ⟨_, s1 _ _ ha, fun r2 K2 s2 h2 => ?_⟩⟩
    rw [cut_any] at h1
    rw [show (k : Int) + 1 = ((k + 1 : Nat) : Int) by omega, cut_anyH] at h2
    refine ⟨_, s2 _ _ h1, _, h2, small (by simp only [List.length_map, List.length_take, List.length_drop]; omega), fun r3 K3 s3 h3 => ⟨small (by decide), ret_ok q (s1.trans (s2.trans s3)) nf ?_⟩⟩
    rw [h3, ← List.map_append]
    show _ = some (HO.tup (List.map V.int (ns.eraseIdx (k : Int).toNat)))
    rw [Int.toNat_natCast, List.eraseIdx_eq_take_drop_succ]
  | cut side f m g =>
    cases hk
    obtain ⟨hp, hf, hg, m0, m1⟩ := hd
    refine seq_with (fun σ G => G = G1 ∧ σ = [some (.ref a), some (.ref p), some (.str (Str.ofString "cut")), none]) ?_ (fun R hR => ?_)
    rotate_left
    · wp_walk using rRepT, tSeq, tIfS, inV, eqV
      rw [if_neg (show ¬ Str.ofString "cut" = Str.ofString "turn" by decide +kernel)]
      exact hR _ _ ⟨rfl, rfl⟩
    rintro σ2 G2 ⟨rfl, rfl⟩
    refine seq_with (fun σ G => G = G2 ∧ σ = [some (.ref a), some (.ref p), some (.str (Str.ofString "cut")), none]) ?_ (fun R hR => ?_)
    rotate_left
    · wp_walk using rRepT, tSeq, tIfS, inV, eqV
      rw [if_neg (show ¬ Str.ofString "cut" = Str.ofString "lead" by decide +kernel)]
      exact hR _ _ ⟨rfl, rfl⟩
    rintro σ3 G3 ⟨rfl, rfl⟩
    refine seq_with (fun σ G => G = G3 ∧ σ = [some (.ref a), some (.ref p), some (.str (Str.ofString "cut")), some (.int side)]) ?_ (fun R hR => ?_)
    rotate_left
    · wp_walk using rRepT, tSeq, tIfS, inV, eqV
      exact ⟨_, hp, _, atI_nat (j := 1) rfl, hR _ _ ⟨rfl, rfl⟩⟩
    rintro σ4 G4 ⟨rfl, rfl⟩
    refine seq_with (fun σ G => G = G4 ∧ ¬ off ns side ∧ σ = [some (.ref a), some (.ref p), some (.str (Str.ofString "cut")), some (.int side)]) ?_ (fun R hR => ?_)
    rotate_left
    · wp_walk using rRepT, tSeq, tIfS, inV, eqV
      have no : off ns side → 2 ≤ sizeLine ∧ ∀ r, G4 r = none → Q (V.ref r) (upd G4 r (HO.tup [V.ref a, V.str (Str.ofString "side")])) := fun o => ⟨small (by decide), ret_flt q (Same.refl _) (if_pos o)⟩
      split
      · rename_i c; exact no (.inl c)
      refine ⟨_, .inr (.of ha), ?_⟩
      rw [len_map]
      split
      · rename_i c; exact no (.inr (by omega))
      refine ⟨_, .inr (.of ha), ?_⟩
      rw [len_map]
      split
      · rename_i c
        rw [if_pos (show ¬ Str.ofString "cut" = Str.ofString "spread" by decide +kernel)]
        exact no (.inr (by omega))
      · exact hR _ _ ⟨rfl, by unfold off; omega, rfl⟩
    rintro σ5 G5 ⟨rfl, no, rfl⟩
    refine seq_with (fun σ G => G = G5 ∧ σ = [some (.ref a), some (.ref p), some (.str (Str.ofString "cut")), some (.int side)]) ?_ (fun R hR => ?_)
    rotate_left
    · wp_walk using rRepT, tSeq, tIfS, inV, eqV
      rw [if_neg (show ¬ Str.ofString "cut" = Str.ofString "spread" by decide +kernel)]
      exact hR _ _ ⟨rfl, rfl⟩
    rintro σ6 G6 ⟨rfl, rfl⟩
    refine seq_with (fun σ G => G = G6 ∧ σ = [some (.ref a), some (.ref p), some (.str (Str.ofString "cut")), some (.int side)]) ?_ (fun R hR => ?_)
    rotate_left
    · wp_walk using rRepT, tSeq, tIfS, inV, eqV
      rw [if_neg (show ¬ Str.ofString "cut" = Str.ofString "inner" by decide +kernel)]
      exact hR _ _ ⟨rfl, rfl⟩
    rintro σ7 G7 ⟨rfl, rfl⟩
    refine seq_with (fun σ G => G = G7 ∧ σ = [some (.ref a), some (.ref p), some (.str (Str.ofString "cut")), some (.int side)]) ?_ (fun R hR => ?_)
    rotate_left
    · wp_walk using rRepT, tSeq, tIfS, inV, eqV
      rw [if_neg (show ¬ Str.ofString "cut" = Str.ofString "flip" by decide +kernel)]
      exact hR _ _ ⟨rfl, rfl⟩
    rintro σ8 G8 ⟨rfl, rfl⟩
    have bd : bad ns side f m g → 2 ≤ sizeLine ∧ ∀ r, G8 r = none → Q (V.ref r) (upd G8 r (HO.tup [V.ref a, V.str (Str.ofString "beyond")])) := fun b => ⟨small (by decide), ret_flt q (Same.refl _) ((if_neg no).trans (if_pos b))⟩
    obtain ⟨k, hk, kl⟩ := side_nat no
    refine seq_with (fun σ G => G = G8 ∧ ¬ f < 0 ∧ ¬ m < 0 ∧ ¬ g < 1 ∧ σ = [some (.ref a), some (.ref p), some (.str (Str.ofString "cut")), some (.int side)]) ?_ (fun R hR => ?_)
    rotate_left
    · wp_walk using rRepT, tSeq, tIfS, inV, eqV
      refine ⟨_, hp, _, atI_nat (j := 2) rfl, _, rfl, ?_⟩
      by_cases c1 : f < 0
      · rw [if_pos c1]; exact bd (.inl c1)
      rw [if_neg c1]
      refine ⟨_, hp, _, atI_nat (j := 3) rfl, _, rfl, ?_⟩
      by_cases c2 : m < 0
      · rw [if_pos c2]; exact bd (.inr (.inl c2))
      rw [if_neg c2]
      refine ⟨_, hp, _, atI_nat (j := 4) rfl, _, rfl, ?_⟩
      by_cases c3 : g < 1
      · rw [if_pos c3]; exact bd (.inr (.inr (.inl c3)))
      rw [if_neg c3]
      exact hR _ _ ⟨rfl, c1, c2, c3, rfl⟩
    rintro σ9 G9 ⟨rfl, c1, c2, c3, rfl⟩
    refine seq_with (fun σ G => G = G9 ∧ fltD ns (.cut side f m g) = none ∧ σ = [some (.ref a), some (.ref p), some (.str (Str.ofString "cut")), some (.int side)]) ?_ (fun R hR => ?_)
    rotate_left
    · wp_walk using rRepT, tSeq, tIfS, inV, eqV
      have nb4 : ¬ (0 < m ∧ ns.getD side.toNat 0 ≤ f + (m - 1) * g) → fltD ns (.cut side f m g) = none := fun z => (if_neg no).trans (if_neg fun b => b.elim c1 fun b => b.elim c2 fun b => b.elim c3 z)
      refine ⟨_, hp, _, atI_nat (j := 3) rfl, _, rfl, ?_⟩
      by_cases c4 : 0 < m
      · rw [if_pos c4]
        have ea : atI (ns.map V.int) side = some (.int (ns.getD side.toNat 0)) := by rw [hk, Int.toNat_natCast]; exact at_side kl
        refine ⟨_, hp, _, atI_nat (j := 2) rfl, _, hp, _, atI_nat (j := 3) rfl, _, rfl, _, hp, _, atI_nat (j := 4) rfl, _, rfl, .inr ⟨hg.1, hg.2⟩, _, rfl, _, ha, _, ea, _, rfl, ?_⟩
        by_cases c5 : ns.getD side.toNat 0 ≤ f + (m - 1) * g
        · rw [if_pos c5]; exact bd (.inr (.inr (.inr ⟨c4, c5⟩)))
        rw [if_neg c5]
        exact hR _ _ ⟨rfl, nb4 fun z => c5 z.2, rfl⟩
      · rw [if_neg c4]
        exact hR _ _ ⟨rfl, nb4 fun z => c4 z.1, rfl⟩
    rintro σX GX ⟨rfl, nf, rfl⟩
    subst hk
    wp_walk using rRepT, tSeq, tIfS, inV, eqV
    refine ⟨_, ha, fun r1 K1 s1 h1 => ?_⟩
    rw [cut_any] at h1
    refine ⟨_, s1 _ _ hp, _, atI_nat (j := 3) rfl, small (by decide), fun p4 hp4 => ⟨_, same_new hp4 _ _ _ h1, small (by simp only [List.length_map, List.length_take]; omega), fun r2 K2 s2 h2 => ⟨_, (s1.trans ((same_new hp4 _).trans s2)) _ _ ha, fun r3 K3 s3 h3 => ?_⟩⟩⟩
    rw [show (k : Int) + 1 = ((k + 1 : Nat) : Int) by omega, cut_anyH] at h3
    refine ⟨_, s3 _ _ h2, _, h3, small (by simp only [List.length_append, List.length_map, List.length_take, List.length_drop, List.length_cons, List.length_nil]; omega), fun r4 K4 s4 h4 => ⟨small (by decide), ret_ok q (s1.trans ((same_new hp4 _).trans (s2.trans (s3.trans s4)))) nf ?_⟩⟩
    rw [h4]
    show _ = some (HO.tup (List.map V.int (ns.set (k : Int).toNat m)))
    rw [Int.toNat_natCast, List.set_eq_take_append_cons_drop, if_pos kl, List.map_append, List.append_assoc]; rfl
  | spread side m =>
    cases hk
    obtain ⟨hp, m0, m1⟩ := hd
    refine seq_with (fun σ G => G = G1 ∧ σ = [some (.ref a), some (.ref p), some (.str (Str.ofString "spread")), none]) ?_ (fun R hR => ?_)
    rotate_left
    · wp_walk using rRepT, tSeq, tIfS, inV, eqV
      rw [if_neg (show ¬ Str.ofString "spread" = Str.ofString "turn" by decide +kernel)]
      exact hR _ _ ⟨rfl, rfl⟩
    rintro σ2 G2 ⟨rfl, rfl⟩
    refine seq_with (fun σ G => G = G2 ∧ σ = [some (.ref a), some (.ref p), some (.str (Str.ofString "spread")), none]) ?_ (fun R hR => ?_)
    rotate_left
    · wp_walk using rRepT, tSeq, tIfS, inV, eqV
      rw [if_neg (show ¬ Str.ofString "spread" = Str.ofString "lead" by decide +kernel)]
      exact hR _ _ ⟨rfl, rfl⟩
    rintro σ3 G3 ⟨rfl, rfl⟩
    refine seq_with (fun σ G => G = G3 ∧ σ = [some (.ref a), some (.ref p), some (.str (Str.ofString "spread")), some (.int side)]) ?_ (fun R hR => ?_)
    rotate_left
    · wp_walk using rRepT, tSeq, tIfS, inV, eqV
      exact ⟨_, hp, _, atI_nat (j := 1) rfl, hR _ _ ⟨rfl, rfl⟩⟩
    rintro σ4 G4 ⟨rfl, rfl⟩
    refine seq_with (fun σ G => G = G4 ∧ ¬ off1 ns side ∧ σ = [some (.ref a), some (.ref p), some (.str (Str.ofString "spread")), some (.int side)]) ?_ (fun R hR => ?_)
    rotate_left
    · wp_walk using rRepT, tSeq, tIfS, inV, eqV
      have no : off1 ns side → 2 ≤ sizeLine ∧ ∀ r, G4 r = none → Q (V.ref r) (upd G4 r (HO.tup [V.ref a, V.str (Str.ofString "side")])) := fun o => ⟨small (by decide), ret_flt q (Same.refl _) (if_pos o)⟩
      split
      · rename_i c; exact no (.inl c)
      refine ⟨_, .inr (.of ha), ?_⟩
      rw [len_map]
      split
      · rename_i c; exact no (.inr (by omega))
      refine ⟨_, .inr (.of ha), ?_⟩
      rw [len_map]
      split
      · exact hR _ _ ⟨rfl, by unfold off1; omega, rfl⟩
      · exact hR _ _ ⟨rfl, by unfold off1; omega, rfl⟩
    rintro σ5 G5 ⟨rfl, no, rfl⟩
    refine seq_with (fun σ G => False) (fun σ G h => h.elim) (fun R hR => ?_)
    clear hR
    wp_walk using rRepT, tSeq, tIfS, inV, eqV, splawroom
    refine ⟨_, hp, _, atI_nat (j := 2) rfl, _, rfl, ?_⟩
    by_cases c : m < 0
    · rw [if_pos c]; exact ⟨small (by decide), ret_flt q (Same.refl _) ((if_neg no).trans (if_pos c))⟩
    rw [if_neg c]
    obtain ⟨k, hk⟩ : ∃ k : Nat, side = k := ⟨side.toNat, by unfold off1 at no; omega⟩
    have kl : k ≤ ns.length := by unfold off1 at no; omega
    have bi := big_ins (k := side.toNat) l6 sd nb (show 0 ≤ m by omega)
    have lg : bigI (insL ns side.toNat m) → 2 ≤ sizeLine ∧ ∀ r, G5 r = none → Q (V.ref r) (upd G5 r (HO.tup [V.ref a, V.str (Str.ofString "large")])) := fun b => ⟨small (by decide), ret_flt q (Same.refl _) ((if_neg no).trans ((if_neg c).trans (if_pos b)))⟩
    refine ⟨_, .inr (.of ha), ?_⟩
    rw [len_map]
    by_cases c6 : (ns.length : Int) = 6
    · rw [if_pos c6]; exact lg (bi.mpr (.inl (by omega)))
    rw [if_neg c6]
    refine ⟨ns, ha, sd, _, hp, _, atI_nat (j := 2) rfl, _, rfl, ?_⟩
    by_cases cr : roomI ns < m
    · rw [if_pos cr]; exact lg (bi.mpr (.inr cr))
    rw [if_neg cr]
    have nf : fltD ns (.spread side m) = none := (if_neg no).trans ((if_neg c).trans (if_neg fun b => (bi.mp b).elim (fun z => c6 (by omega)) cr))
    subst hk
    refine ⟨_, ha, fun r1 K1 s1 h1 => ?_⟩
    rw [cut_any] at h1
    refine ⟨_, s1 _ _ hp, _, atI_nat (j := 2) rfl, small (by decide), fun p4 hp4 => ⟨_, same_new hp4 _ _ _ h1, small (by simp only [List.length_map, List.length_take]; omega), fun r2 K2 s2 h2 => ⟨_, (s1.trans ((same_new hp4 _).trans s2)) _ _ ha, fun r3 K3 s3 h3 => ?_⟩⟩⟩
    rw [cut_anyH] at h3
    refine ⟨_, s3 _ _ h2, _, h3, small (by simp only [List.length_append, List.length_map, List.length_take, List.length_drop, List.length_cons, List.length_nil]; omega), fun r4 K4 s4 h4 => ⟨small (by decide), ret_ok q (s1.trans ((same_new hp4 _).trans (s2.trans (s3.trans s4)))) nf ?_⟩⟩
    rw [h4]
    show _ = some (HO.tup (List.map V.int (insL ns (k : Int).toNat m)))
    rw [Int.toNat_natCast]
    unfold insL
    rw [List.map_append, List.map_append]; rfl
end
abbrev slawviewed : Stmt := top 43
section
variable {P : Program} {w : World} {K : PySem.W.Frag} {mg : Str → Option Value} {base : Heap} {f : Addr} {fd : FuncData}
theorem sclawviewed : FnScope ["view", "doing"] ["view", "doing"] (defScope slawviewed) := ⟨rfl, rfl, rfl, by decide +kernel, rfl, by decide +kernel, by decide +kernel⟩
theorem oklawviewed (F : Fun K "_law_viewed" "_law_viewed" slawviewed f fd) {CNoSide : Addr} (nNoSide : PySem.W.nsIn K mainGlobals "NoSide" = some (some (.ref CNoSide))) {CBeyond : Addr} (nBeyond : PySem.W.nsIn K mainGlobals "Beyond" = some (some (.ref CBeyond))) {CTooLarge : Addr} (nTooLarge : PySem.W.nsIn K mainGlobals "TooLarge" = some (some (.ref CTooLarge))) {CUnlike : Addr} (nUnlike : PySem.W.nsIn K mainGlobals "Unlike" = some (some (.ref CUnlike))) (cturnedview : Callee P w K mg base (CX1 P w) (5) "turned_view" ["view", "order"] (spvturn CNoSide)) (cledview : Callee P w K mg base (CX1 P w) (5) "led_view" ["view", "sides"] (spvled CUnlike)) (cspreadview : Callee P w K mg base (CX1 P w) (5) "spread_view" ["view", "side", "many"] (spvspread CNoSide CBeyond CTooLarge)) (ccutview : Callee P w K mg base (CX1 P w) (5) "cut_view" ["view", "side", "first", "many", "step"] (spvcut CNoSide CBeyond)) (cflippedview : Callee P w K mg base (CX1 P w) (5) "flipped_view" ["view", "side"] (spvflip CNoSide)) (cinnerview : Callee P w K mg base (CX1 P w) (5) "inner_view" ["view", "side"] (spvinner CNoSide)) : FnOk P w K mg base (CX1 P w) (6) f fd ["view", "doing"] ((spviewed CNoSide CBeyond CTooLarge CUnlike)) := by
  have sc := sclawviewed
  refine F.okX sc (fun vs H Q E h => ?_) (fun cdv A outer s H vs Q E hr h => ?_)
  · obtain ⟨v, p, ns, ss, st, d, rfl, _⟩ := h; rfl
  obtain ⟨v, p, ns, ss, st, d, rfl, vw, vo, hd, q1, q2⟩ := h
  refine ⟨_, (pss_cons (ps_if (pt_cmpR op_eq (pe_ix ix_tupH (pv 1) pe_int (fun _ _ => rfl)) pe_str (nomark _)) (pss_one (ps_ret (pe_cal cturnedview hr (by rfl) passes1 (pa_cons (pv 0) (pa_cons (pe_ix ix_tupH (pv 1) pe_int (fun _ _ => rfl)) pa_nil))))) pss_nil) (pss_cons (ps_if (pt_cmpR op_eq (pe_ix ix_tupH (pv 1) pe_int (fun _ _ => rfl)) pe_str (nomark _)) (pss_one (ps_ret (pe_cal cledview hr (by rfl) passes1 (pa_cons (pv 0) (pa_cons (pe_ix ix_tupH (pv 1) pe_int (fun _ _ => rfl)) pa_nil))))) pss_nil) (pss_cons (ps_if (pt_cmpR op_eq (pe_ix ix_tupH (pv 1) pe_int (fun _ _ => rfl)) pe_str (nomark _)) (pss_one (ps_ret (pe_cal cspreadview hr (by rfl) passes1 (pa_cons (pv 0) (pa_cons (pe_ix ix_tupH (pv 1) pe_int (fun _ _ => rfl)) (pa_cons (pe_ix ix_tupH (pv 1) pe_int (fun _ _ => rfl)) pa_nil)))))) pss_nil) (pss_cons (ps_if (pt_cmpR op_eq (pe_ix ix_tupH (pv 1) pe_int (fun _ _ => rfl)) pe_str (nomark _)) (pss_one (ps_ret (pe_cal ccutview hr (by rfl) passes1 (pa_cons (pv 0) (pa_cons (pe_ix ix_tupH (pv 1) pe_int (fun _ _ => rfl)) (pa_cons (pe_ix ix_tupH (pv 1) pe_int (fun _ _ => rfl)) (pa_cons (pe_ix ix_tupH (pv 1) pe_int (fun _ _ => rfl)) (pa_cons (pe_ix ix_tupH (pv 1) pe_int (fun _ _ => rfl)) pa_nil)))))))) pss_nil) (pss_cons (ps_if (pt_cmpR op_eq (pe_ix ix_tupH (pv 1) pe_int (fun _ _ => rfl)) pe_str (nomark _)) (pss_one (ps_ret (pe_cal cflippedview hr (by rfl) passes1 (pa_cons (pv 0) (pa_cons (pe_ix ix_tupH (pv 1) pe_int (fun _ _ => rfl)) pa_nil))))) pss_nil) (pss_one (ps_ret (pe_cal cinnerview hr (by rfl) passes1 (pa_cons (pv 0) (pa_cons (pe_ix ix_tupH (pv 1) pe_int (fun _ _ => rfl)) pa_nil)))))))))), ?_⟩
  simp only [L2.start, List.length_cons, List.length_nil, List.replicate, List.cons_append, List.nil_append, Nat.reduceSub, Nat.reduceAdd, List.map_cons, List.map_nil]
  wp_walk using rRepT, tSeq, tIfS, inV, eqV, spvturn, spvled, spvspread, spvcut, spvflip, spvinner
  cases d with
  | turn os =>
    obtain ⟨b, hp, hb, ol⟩ := hd
    refine ⟨_, hp, _, atI_nat (j := 0) rfl, rfl, ?_⟩
    rw [if_pos rfl]
    exact ⟨_, hp, _, atI_nat (j := 1) rfl, _, rfl, ns, ss, os, st, vw, vo, hb, by omega, fun nt H' s => by have h := q1 "side" (if_neg nt) _ (s); rw [clsD1] at h; exact h, fun tk => q2 (if_pos tk)⟩
  | lead ms =>
    obtain ⟨b, hp, hb, ml⟩ := hd
    refine ⟨_, hp, _, atI_nat (j := 0) rfl, rfl, ?_⟩
    rw [if_neg (show ¬ V.str (Str.ofString "lead") = V.str (Str.ofString "turn") from fun z => absurd (V.str.inj z) (by decide +kernel))]
    refine ⟨_, hp, _, atI_nat (j := 0) rfl, rfl, ?_⟩
    rw [if_pos rfl]
    exact ⟨_, hp, _, atI_nat (j := 1) rfl, _, rfl, ns, ss, ms, st, vw, vo, hb, ml, fun nt H' s => by have h := q1 "unlike" (if_neg nt) _ (s); rw [clsD4] at h; exact h, fun tk => q2 (if_pos tk)⟩
  | spread side m =>
    obtain ⟨hp, m0, m1⟩ := hd
    refine ⟨_, hp, _, atI_nat (j := 0) rfl, rfl, ?_⟩
    rw [if_neg (show ¬ V.str (Str.ofString "spread") = V.str (Str.ofString "turn") from fun z => absurd (V.str.inj z) (by decide +kernel))]
    refine ⟨_, hp, _, atI_nat (j := 0) rfl, rfl, ?_⟩
    rw [if_neg (show ¬ V.str (Str.ofString "spread") = V.str (Str.ofString "lead") from fun z => absurd (V.str.inj z) (by decide +kernel))]
    refine ⟨_, hp, _, atI_nat (j := 0) rfl, rfl, ?_⟩
    rw [if_pos rfl]
    refine ⟨_, hp, _, atI_nat (j := 1) rfl, _, hp, _, atI_nat (j := 2) rfl, ns, ss, st, side, rfl, m, rfl, vw, vo, m1, fun o => by have h := q1 "side" (if_pos o) _ (Same.refl _); rw [clsD1] at h; exact h, fun o n => by have h := q1 "beyond" ((if_neg o).trans (if_pos n)) _ (Same.refl _); rw [clsD2] at h; exact h, fun o n b H' s => by have h := q1 "large" ((if_neg o).trans ((if_neg n).trans (if_pos b))) _ (s); rw [clsD3] at h; exact h, fun o n b => q2 ((if_neg o).trans ((if_neg n).trans (if_neg b)))⟩
  | cut side f m g =>
    obtain ⟨hp, hf, hg, m0, m1⟩ := hd
    refine ⟨_, hp, _, atI_nat (j := 0) rfl, rfl, ?_⟩
    rw [if_neg (show ¬ V.str (Str.ofString "cut") = V.str (Str.ofString "turn") from fun z => absurd (V.str.inj z) (by decide +kernel))]
    refine ⟨_, hp, _, atI_nat (j := 0) rfl, rfl, ?_⟩
    rw [if_neg (show ¬ V.str (Str.ofString "cut") = V.str (Str.ofString "lead") from fun z => absurd (V.str.inj z) (by decide +kernel))]
    refine ⟨_, hp, _, atI_nat (j := 0) rfl, rfl, ?_⟩
    rw [if_neg (show ¬ V.str (Str.ofString "cut") = V.str (Str.ofString "spread") from fun z => absurd (V.str.inj z) (by decide +kernel))]
    refine ⟨_, hp, _, atI_nat (j := 0) rfl, rfl, ?_⟩
    rw [if_pos rfl]
    refine ⟨_, hp, _, atI_nat (j := 1) rfl, _, hp, _, atI_nat (j := 2) rfl, _, hp, _, atI_nat (j := 3) rfl, _, hp, _, atI_nat (j := 4) rfl, ns, ss, st, side, rfl, f, rfl, m, rfl, g, rfl, vw, vo, hf, hg, m0, by omega, fun o => by have h := q1 "side" (if_pos o) _ (Same.refl _); rw [clsD1] at h; exact h, fun o b => by have h := q1 "beyond" ((if_neg o).trans (if_pos b)) _ (Same.refl _); rw [clsD2] at h; exact h, fun o b => q2 ((if_neg o).trans (if_neg b))⟩
  | flip side =>
    have hp : H p = some (.tup [.str (Str.ofString "flip"), .int side]) := hd
    refine ⟨_, hp, _, atI_nat (j := 0) rfl, rfl, ?_⟩
    rw [if_neg (show ¬ V.str (Str.ofString "flip") = V.str (Str.ofString "turn") from fun z => absurd (V.str.inj z) (by decide +kernel))]
    refine ⟨_, hp, _, atI_nat (j := 0) rfl, rfl, ?_⟩
    rw [if_neg (show ¬ V.str (Str.ofString "flip") = V.str (Str.ofString "lead") from fun z => absurd (V.str.inj z) (by decide +kernel))]
    refine ⟨_, hp, _, atI_nat (j := 0) rfl, rfl, ?_⟩
    rw [if_neg (show ¬ V.str (Str.ofString "flip") = V.str (Str.ofString "spread") from fun z => absurd (V.str.inj z) (by decide +kernel))]
    refine ⟨_, hp, _, atI_nat (j := 0) rfl, rfl, ?_⟩
    rw [if_neg (show ¬ V.str (Str.ofString "flip") = V.str (Str.ofString "cut") from fun z => absurd (V.str.inj z) (by decide +kernel))]
    refine ⟨_, hp, _, atI_nat (j := 0) rfl, rfl, ?_⟩
    rw [if_pos rfl]
    refine ⟨_, hp, _, atI_nat (j := 1) rfl, ns, ss, st, side, rfl, vw, vo, fun o => by have h := q1 "side" (if_pos o) _ (Same.refl _); rw [clsD1] at h; exact h, fun o => q2 (if_neg o)⟩
  | inner side =>
    have hp : H p = some (.tup [.str (Str.ofString "inner"), .int side]) := hd
    refine ⟨_, hp, _, atI_nat (j := 0) rfl, rfl, ?_⟩
    rw [if_neg (show ¬ V.str (Str.ofString "inner") = V.str (Str.ofString "turn") from fun z => absurd (V.str.inj z) (by decide +kernel))]
    refine ⟨_, hp, _, atI_nat (j := 0) rfl, rfl, ?_⟩
    rw [if_neg (show ¬ V.str (Str.ofString "inner") = V.str (Str.ofString "lead") from fun z => absurd (V.str.inj z) (by decide +kernel))]
    refine ⟨_, hp, _, atI_nat (j := 0) rfl, rfl, ?_⟩
    rw [if_neg (show ¬ V.str (Str.ofString "inner") = V.str (Str.ofString "spread") from fun z => absurd (V.str.inj z) (by decide +kernel))]
    refine ⟨_, hp, _, atI_nat (j := 0) rfl, rfl, ?_⟩
    rw [if_neg (show ¬ V.str (Str.ofString "inner") = V.str (Str.ofString "cut") from fun z => absurd (V.str.inj z) (by decide +kernel))]
    refine ⟨_, hp, _, atI_nat (j := 0) rfl, rfl, ?_⟩
    rw [if_neg (show ¬ V.str (Str.ofString "inner") = V.str (Str.ofString "flip") from fun z => absurd (V.str.inj z) (by decide +kernel))]
    refine ⟨_, hp, _, atI_nat (j := 1) rfl, ns, ss, st, side, rfl, vw, vo, fun o => by have h := q1 "side" (if_pos o) _ (Same.refl _); rw [clsD1] at h; exact h, fun o => q2 (if_neg o)⟩
end
abbrev slawasked : Stmt := top 44
def splawasked : Sp := fun vs H Q _ => ∃ (v p : Addr) (ns ss : List Int) (st : Int) (d : Dg), vs = [.ref v, .ref p] ∧ VwAt H v ns st ss ∧ vwOk ns ss ∧ DgAt H p d ∧ ∀ H' r, Same H H' → askR H' r ns ss st d → Q (.ref r) H'
section
variable {P : Program} {w : World} {K : PySem.W.Frag} {mg : Str → Option Value} {base : Heap} {f : Addr} {fd : FuncData}
theorem sclawasked : FnScope ["view", "doing", "found", "word", "e"] ["view", "doing"] (defScope slawasked) := ⟨rfl, rfl, rfl, by decide +kernel, rfl, by decide +kernel, by decide +kernel⟩
theorem oklawasked (F : Fun K "_law_asked" "_law_asked" slawasked f fd) {CNoSide : Addr} (nNoSide : PySem.W.nsIn K mainGlobals "NoSide" = some (some (.ref CNoSide))) {CBeyond : Addr} (nBeyond : PySem.W.nsIn K mainGlobals "Beyond" = some (some (.ref CBeyond))) {CTooLarge : Addr} (nTooLarge : PySem.W.nsIn K mainGlobals "TooLarge" = some (some (.ref CTooLarge))) {CUnlike : Addr} (nUnlike : PySem.W.nsIn K mainGlobals "Unlike" = some (some (.ref CUnlike))) {CNoPlace : Addr} (nNoPlace : PySem.W.nsIn K mainGlobals "NoPlace" = some (some (.ref CNoPlace))) (clawviewed : Callee P w K mg base (CX1 P w) (6) "_law_viewed" ["view", "doing"] (spviewed CNoSide CBeyond CTooLarge CUnlike)) (zstr : mg "str" = none) (zisinstance : mg "isinstance" = none) (kS : ExcK K CNoSide) (aS : PySem.W.kitAny K (.ref CNoSide) ([CUnlike, CBeyond, CTooLarge, CNoPlace].map Value.ref) = some false) (kB : ExcK K CBeyond) (aB : PySem.W.kitAny K (.ref CBeyond) ([CUnlike, CNoSide, CTooLarge, CNoPlace].map Value.ref) = some false) (kL : ExcK K CTooLarge) (aL : PySem.W.kitAny K (.ref CTooLarge) ([CUnlike, CNoSide, CBeyond, CNoPlace].map Value.ref) = some false) (kU : ExcK K CUnlike) (aU : PySem.W.kitAny K (.ref CUnlike) ([CTooLarge, CNoSide, CBeyond, CNoPlace].map Value.ref) = some false) (eSS : PySem.W.exmOne K (.ref CNoSide) (.ref CNoSide) = some true) (eBS : PySem.W.exmOne K (.ref CBeyond) (.ref CNoSide) = some false) (eBB : PySem.W.exmOne K (.ref CBeyond) (.ref CBeyond) = some true) (eLS : PySem.W.exmOne K (.ref CTooLarge) (.ref CNoSide) = some false) (eLB : PySem.W.exmOne K (.ref CTooLarge) (.ref CBeyond) = some false) (eLL : PySem.W.exmOne K (.ref CTooLarge) (.ref CTooLarge) = some true) (eUS : PySem.W.exmOne K (.ref CUnlike) (.ref CNoSide) = some false) (eUB : PySem.W.exmOne K (.ref CUnlike) (.ref CBeyond) = some false) (eUL : PySem.W.exmOne K (.ref CUnlike) (.ref CTooLarge) = some false) (eUU : PySem.W.exmOne K (.ref CUnlike) (.ref CUnlike) = some true) : FnOk P w K mg base CX0 (7) f fd ["view", "doing"] (splawasked) := by
  have sc := sclawasked
  refine F.ok sc (fun vs H Q E h => ?_) (fun cdv A outer s H vs Q E hr h => ?_)
  · obtain ⟨v, p, ns, ss, st, d, rfl, _⟩ := h; rfl
  obtain ⟨v, p, ns, ss, st, d, rfl, vw, vo, hd, q⟩ := h
  refine ⟨_, (pss_cons (ps_set (i := 2) sc.nd rfl (by first | exact Or.inl rfl | exact Or.inr rfl) pe_non) (pss_lit (i := 3) sc.nd rfl (by first | exact Or.inl rfl | exact Or.inr rfl) (pssT_cons (ps_tryA ⟨rfl, rfl⟩ rfl sc.nd (fun xe pn EE hx => (pss_one (ps_set (i := 2) sc.nd rfl (by first | exact Or.inl rfl | exact Or.inr rfl) (pe_calX clawviewed hr (by rfl) hx (pa_cons (pv 0) (pa_cons (pv 1) pa_nil)))))) (.cons (i := 4) rfl rfl (by rfl) nNoSide (fun ae pn => (pss_one (ps_set (i := 3) sc.nd rfl (by first | exact Or.inl rfl | exact Or.inr rfl) (pe_op op_add_str pe_str (pe_callTy call_strB (by rfl) zstr boot_str (pa_cons (pe_callB (call_isiET kS aS) (by rfl) zisinstance boot_isinstance (pa_cons (pv 4) (pa_cons (pe_tup (pa_cons (pe_cls (by rfl) nUnlike) (pa_cons (pe_cls (by rfl) nBeyond) (pa_cons (pe_cls (by rfl) nTooLarge) (pa_cons (pe_cls (by rfl) nNoPlace) pa_nil))))) pa_nil))) pa_nil)))))) (.cons (i := 4) rfl rfl (by rfl) nBeyond (fun ae pn => (pss_one (ps_set (i := 3) sc.nd rfl (by first | exact Or.inl rfl | exact Or.inr rfl) (pe_op op_add_str pe_str (pe_callTy call_strB (by rfl) zstr boot_str (pa_cons (pe_callB (call_isiET kB aB) (by rfl) zisinstance boot_isinstance (pa_cons (pv 4) (pa_cons (pe_tup (pa_cons (pe_cls (by rfl) nUnlike) (pa_cons (pe_cls (by rfl) nNoSide) (pa_cons (pe_cls (by rfl) nTooLarge) (pa_cons (pe_cls (by rfl) nNoPlace) pa_nil))))) pa_nil))) pa_nil)))))) (.cons (i := 4) rfl rfl (by rfl) nTooLarge (fun ae pn => (pss_one (ps_set (i := 3) sc.nd rfl (by first | exact Or.inl rfl | exact Or.inr rfl) (pe_op op_add_str pe_str (pe_callTy call_strB (by rfl) zstr boot_str (pa_cons (pe_callB (call_isiET kL aL) (by rfl) zisinstance boot_isinstance (pa_cons (pv 4) (pa_cons (pe_tup (pa_cons (pe_cls (by rfl) nUnlike) (pa_cons (pe_cls (by rfl) nNoSide) (pa_cons (pe_cls (by rfl) nBeyond) (pa_cons (pe_cls (by rfl) nNoPlace) pa_nil))))) pa_nil))) pa_nil)))))) (.cons (i := 4) rfl rfl (by rfl) nUnlike (fun ae pn => (pss_one (ps_set (i := 3) sc.nd rfl (by first | exact Or.inl rfl | exact Or.inr rfl) (pe_op op_add_str pe_str (pe_callTy call_strB (by rfl) zstr boot_str (pa_cons (pe_callB (call_isiET kU aU) (by rfl) zisinstance boot_isinstance (pa_cons (pv 4) (pa_cons (pe_tup (pa_cons (pe_cls (by rfl) nTooLarge) (pa_cons (pe_cls (by rfl) nNoSide) (pa_cons (pe_cls (by rfl) nBeyond) (pa_cons (pe_cls (by rfl) nNoPlace) pa_nil))))) pa_nil))) pa_nil)))))) .nil (by decide)) (by decide)) (by decide)) (by decide))) (pssT_one (psT_ret (pet_pair (pv 2) (pet_repl (pv 3)))))))), ?_⟩
  simp only [L2.start, List.length_cons, List.length_nil, List.replicate, List.cons_append, List.nil_append, Nat.reduceSub, Nat.reduceAdd, List.map_cons, List.map_nil]
  refine seq_with (fun σ G => G = H ∧ σ = [some (.ref v), some (.ref p), some .non, none, none]) ?_ (fun R hR => ?_)
  rotate_left
  · wp_walk using rRepT, tSeq, tIfS, inV, eqV
    exact hR _ _ ⟨rfl, rfl⟩
  rintro σ1 G1 ⟨rfl, rfl⟩
  refine seq_with (fun σ G => G = G1 ∧ σ = [some (.ref v), some (.ref p), some .non, some (.str (Str.ofString "")), none]) ?_ (fun R hR => ?_)
  rotate_left
  · wp_walk using rRepT, tSeq, tIfS, inV, eqV
    exact hR _ _ ⟨rfl, rfl⟩
  rintro σ2 G2 ⟨rfl, rfl⟩
  refine seq_with (fun σ G => Same G2 G ∧ ∃ f w y, ((∃ w0, fltD ns d = some w0 ∧ w = w0 ++ Str.ofString "False" ∧ f = .non) ∨ (fltD ns d = none ∧ w = Str.ofString "" ∧ ∃ q, f = .ref q ∧ VwAt G q (sdsD ns d) (staD ns ss st d) (stsD ns ss d))) ∧ σ = [some (.ref v), some (.ref p), some f, some (.str w), y]) ?_ (fun R hR => ?_)
  rotate_left
  · wp_walk using rRepT, tSeq, tIfS, inV, eqV, spviewed
    refine ⟨ns, ss, st, vw, vo, d, hd, fun w hw G s => ?_, fun hn G r s vw' => hR _ _ ⟨s, .ref r, _, _, .inr ⟨hn, rfl, r, rfl, vw'⟩, rfl⟩⟩
    rcases flt_words hw with rfl | rfl | rfl | rfl
    · rw [clsD1]
      exact ⟨CNoSide, rfl, .inl ⟨eSS, fun a ha => ⟨small (by decide), fun p1 hp1 => ⟨same_new hp1 _ _ _ upd_same, small (by decide +kernel), hR _ _ ⟨s.trans ((same_new ha _).trans (same_new hp1 _)), .non, _, _, .inl ⟨_, hw, rfl, rfl⟩, rfl⟩⟩⟩⟩⟩
    · rw [clsD2]
      exact ⟨CBeyond, rfl, .inr ⟨eBS, .inl ⟨eBB, fun a ha => ⟨small (by decide), fun p1 hp1 => ⟨same_new hp1 _ _ _ upd_same, small (by decide +kernel), hR _ _ ⟨s.trans ((same_new ha _).trans (same_new hp1 _)), .non, _, _, .inl ⟨_, hw, rfl, rfl⟩, rfl⟩⟩⟩⟩⟩⟩
    · rw [clsD3]
      exact ⟨CTooLarge, rfl, .inr ⟨eLS, .inr ⟨eLB, .inl ⟨eLL, fun a ha => ⟨small (by decide), fun p1 hp1 => ⟨same_new hp1 _ _ _ upd_same, small (by decide +kernel), hR _ _ ⟨s.trans ((same_new ha _).trans (same_new hp1 _)), .non, _, _, .inl ⟨_, hw, rfl, rfl⟩, rfl⟩⟩⟩⟩⟩⟩⟩
    · rw [clsD4]
      exact ⟨CUnlike, rfl, .inr ⟨eUS, .inr ⟨eUB, .inr ⟨eUL, .inl ⟨eUU, fun a ha => ⟨small (by decide), fun p1 hp1 => ⟨same_new hp1 _ _ _ upd_same, small (by decide +kernel), hR _ _ ⟨s.trans ((same_new ha _).trans (same_new hp1 _)), .non, _, _, .inl ⟨_, hw, rfl, rfl⟩, rfl⟩⟩⟩⟩⟩⟩⟩⟩
  rintro σ3 G3 ⟨s3, f, w, y, hw, rfl⟩
  wp_walk using rRepT, tSeq, tIfS, inV, eqV
  rcases hw with ⟨w0, h0, rfl, rfl⟩ | ⟨h0, rfl, q1, rfl, vw'⟩
  · rcases flt_words h0 with rfl | rfl | rfl | rfl
    · rw [show Txt.replace (Str.ofString "side" ++ Str.ofString "False") (Str.ofString "False") (Str.ofString "") = Str.ofString "side" from by decide +kernel]
      exact ⟨by decide +kernel, by decide +kernel, by decide, small (by decide), fun r hr => q _ r (s3.trans (same_new hr _)) ⟨.non, _, upd_same, .inl ⟨h0, rfl⟩⟩⟩
    · rw [show Txt.replace (Str.ofString "beyond" ++ Str.ofString "False") (Str.ofString "False") (Str.ofString "") = Str.ofString "beyond" from by decide +kernel]
      exact ⟨by decide +kernel, by decide +kernel, by decide, small (by decide), fun r hr => q _ r (s3.trans (same_new hr _)) ⟨.non, _, upd_same, .inl ⟨h0, rfl⟩⟩⟩
    · rw [show Txt.replace (Str.ofString "large" ++ Str.ofString "False") (Str.ofString "False") (Str.ofString "") = Str.ofString "large" from by decide +kernel]
      exact ⟨by decide +kernel, by decide +kernel, by decide, small (by decide), fun r hr => q _ r (s3.trans (same_new hr _)) ⟨.non, _, upd_same, .inl ⟨h0, rfl⟩⟩⟩
    · rw [show Txt.replace (Str.ofString "unlike" ++ Str.ofString "False") (Str.ofString "False") (Str.ofString "") = Str.ofString "unlike" from by decide +kernel]
      exact ⟨by decide +kernel, by decide +kernel, by decide, small (by decide), fun r hr => q _ r (s3.trans (same_new hr _)) ⟨.non, _, upd_same, .inl ⟨h0, rfl⟩⟩⟩
  · rw [show Txt.replace (Str.ofString "") (Str.ofString "False") (Str.ofString "") = Str.ofString "" from by decide +kernel]
    exact ⟨by decide, by decide +kernel, by decide, small (by decide), fun r hr => q _ r (s3.trans (same_new hr _)) ⟨.ref q1, _, upd_same, .inr ⟨h0, rfl, q1, rfl, vw'.same (same_new hr _)⟩⟩⟩
end
abbrev slawback : Stmt := top 45
section
variable {P : Program} {w : World} {K : PySem.W.Frag} {mg : Str → Option Value} {base : Heap} {f : Addr} {fd : FuncData}
theorem sclawback : FnScope ["doing", "sides", "behind", "at", "own", "inner", "out", "k", "one", "side"] ["doing", "sides", "behind", "at"] (defScope slawback) := ⟨rfl, rfl, rfl, by decide +kernel, rfl, by decide +kernel, by decide +kernel⟩
theorem oklawback (F : Fun K "_law_back" "_law_back" slawback f fd) (zlen : mg "len" = none) (zzip : mg "zip" = none) (ztuple : mg "tuple" = none) : FnOk P w K mg base CX0 (1) f fd ["doing", "sides", "behind", "at"] (splback) := by
  have sc := sclawback
  refine F.ok sc (fun vs H Q E h => ?_) (fun cdv A outer s H vs Q E hr h => ?_)
  · obtain ⟨p, a, b, c, ns, L, A, d, rfl, _⟩ := h; rfl
  obtain ⟨p, a, b, c, ns, L, A, d, rfl, hd, ha, hb, hc, nf, l6, b20, a90, g, q⟩ := h
  refine ⟨_, (pss_cons (ps_set (i := 4) sc.nd rfl (by first | exact Or.inl rfl | exact Or.inr rfl) (pe_slice sl_tupA (pv 3) po_none (po_some (pe_callB call_len_seq (by rfl) zlen PySem.boot_len (pa_cons (pv 2) pa_nil))))) (pss_cons (ps_set (i := 5) sc.nd rfl (by first | exact Or.inl rfl | exact Or.inr rfl) (pe_slice sl_tupA (pv 3) (po_some (pe_callB call_len_seq (by rfl) zlen PySem.boot_len (pa_cons (pv 2) pa_nil))) po_none)) (pss_cons (ps_if (pt_cmpR op_eq (pe_ix ix_tupH (pv 0) pe_int (fun _ _ => rfl)) pe_str (nomark _)) (pss_cons (ps_setC0 (own := ["side"]) sc.nd (i := 6) rfl (by first | exact Or.inl rfl | exact Or.inr rfl) (by first | exact Or.inl rfl | exact Or.inr rfl) rfl (pi_tup (pv 1)) (by decide) (by decide) rfl (by decide) (fun _ _ _ _ => (pg_name (i := 0) (show (["side"] : List Str).Nodup by decide +kernel) rfl (Or.inl rfl))) (fun _ _ _ _ => pe_int)) (pss_cons (ps_for PassesOwn.never rfl (pi_zip (by rfl) zzip (pa_cons (pe_ix ix_tupH (pv 0) pe_int (fun _ _ => rfl)) (pa_cons (pv 4) pa_nil))) (pg_tupH (n := 2) (pg_tup rfl (pgs_cons (pg_name (i := 7) sc.nd rfl (Or.inl rfl)) (pgs_cons (pg_name (i := 8) sc.nd rfl (Or.inl rfl)) pgs_nil)))) (pss_one (ps_asg (pv 8) (pg_sub (pv 6) (pv 7) set_list)))) (pss_one (ps_ret (pe_op op_catS (pe_callTy call_tuple_of (by rfl) ztuple boot_tuple (pa_cons (pv 6) pa_nil)) (pv 5)))))) pss_nil) (pss_cons (ps_if (pt_cmpR op_eq (pe_ix ix_tupH (pv 0) pe_int (fun _ _ => rfl)) pe_str (nomark _)) (pss_one (ps_ret (pe_op op_catS (pe_slice sl_tupA (pv 4) po_none (po_some (pe_callB call_len_seq (by rfl) zlen PySem.boot_len (pa_cons (pv 1) pa_nil)))) (pv 5)))) pss_nil) (pss_cons (ps_set (i := 9) sc.nd rfl (by first | exact Or.inl rfl | exact Or.inr rfl) (pe_ix ix_tupH (pv 0) pe_int (fun _ _ => rfl))) (pss_cons (ps_if (pt_cmpR op_eq (pe_ix ix_tupH (pv 0) pe_int (fun _ _ => rfl)) pe_str (nomark _)) (pss_one (ps_ret (pe_op op_catS (pe_op op_catS (pe_slice sl_tupA (pv 4) po_none (po_some (pv 9))) (pe_slice sl_tupA (pv 4) (po_some (pe_op op_add (pv 9) pe_int)) po_none)) (pv 5)))) pss_nil) (pss_cons (ps_if (pt_cmpR op_eq (pe_ix ix_tupH (pv 0) pe_int (fun _ _ => rfl)) pe_str (nomark _)) (pss_one (ps_ret (pe_op op_catS (pe_op op_catS (pe_op op_catS (pe_slice sl_tupA (pv 4) po_none (po_some (pv 9))) (pe_slice sl_tupA (pv 5) po_none (po_some pe_int))) (pe_slice sl_tupA (pv 4) (po_some (pv 9)) po_none)) (pe_slice sl_tupA (pv 5) (po_some pe_int) po_none)))) pss_nil) (pss_cons (ps_if (pt_cmpR op_eq (pe_ix ix_tupH (pv 0) pe_int (fun _ _ => rfl)) pe_str (nomark _)) (pss_one (ps_set (i := 8) sc.nd rfl (by first | exact Or.inl rfl | exact Or.inr rfl) (pe_op op_sub (pe_op op_sub (pe_ix ix_tupH (pv 1) (pv 9) (fun _ _ => rfl)) pe_int) (pe_ix ix_tupH (pv 4) (pv 9) (fun _ _ => rfl))))) (pss_one (ps_set (i := 8) sc.nd rfl (by first | exact Or.inl rfl | exact Or.inr rfl) (pe_op op_add (pe_ix ix_tupH (pv 0) pe_int (fun _ _ => rfl)) (pe_op op_mul (pe_ix ix_tupH (pv 4) (pv 9) (fun _ _ => rfl)) (pe_ix ix_tupH (pv 0) pe_int (fun _ _ => rfl))))))) (pss_one (ps_ret (pe_op op_catS (pe_op op_catS (pe_op op_catS (pe_slice sl_tupA (pv 4) po_none (po_some (pv 9))) (pe_tup (pa_cons (pv 8) pa_nil))) (pe_slice sl_tupA (pv 4) (po_some (pe_op op_add (pv 9) pe_int)) po_none)) (pv 5)))))))))))), ?_⟩
  simp only [L2.start, List.length_cons, List.length_nil, List.replicate, List.cons_append, List.nil_append, Nat.reduceSub, Nat.reduceAdd, List.map_cons, List.map_nil]
  have al := g.1
  rw [List.length_append] at al
  have bl : (sdsD ns d).length ≤ A.length := by omega
  refine seq_with (fun σ G => ∃ o, Same H G ∧ G o = some (.tup ((A.take (sdsD ns d).length).map V.int)) ∧ σ = [some (.ref p), some (.ref a), some (.ref b), some (.ref c), some (.ref o), none, none, none, none, none]) ?_ (fun R hR => ?_)
  rotate_left
  · wp_walk using rRepT, tSeq, tIfS, inV, eqV
    refine ⟨_, .inr (.of hb), _, hc, fun r G s h => ?_⟩
    rw [len_map, cut_any] at h
    exact hR _ _ ⟨r, s, h, rfl⟩
  rintro σ1 G1 ⟨o, s1, ho, rfl⟩
  refine seq_with (fun σ G => ∃ i, Same G1 G ∧ G i = some (.tup ((A.drop (sdsD ns d).length).map V.int)) ∧ σ = [some (.ref p), some (.ref a), some (.ref b), some (.ref c), some (.ref o), some (.ref i), none, none, none, none]) ?_ (fun R hR => ?_)
  rotate_left
  · wp_walk using rRepT, tSeq, tIfS, inV, eqV
    refine ⟨_, .inr (.of (s1 _ _ hb)), _, s1 _ _ hc, fun r G s h => ?_⟩
    rw [len_map, cut_anyH] at h
    exact hR _ _ ⟨r, s, h, rfl⟩
  rintro σ2 G2 ⟨i, s2, hi, rfl⟩
  have t2 := s1.trans s2
  replace ho := s2 _ _ ho
  replace hd := hd.same t2
  replace ha := t2 _ _ ha
  replace q : ∀ H' r, Same G2 H' → H' r = some (.tup ((backD ns (sdsD ns d) A d).map V.int)) → Q (.ref r) H' := fun H' r s => q H' r (t2.trans s)
  clear hb hc s1 s2 t2
  have ol : (A.take (sdsD ns d).length).length = (sdsD ns d).length := by rw [List.length_take]; omega
  cases d with
  | turn os =>
    obtain ⟨e, hp, he, o7⟩ := hd
    have tk := flt_turn nf
    have om : ∀ o ∈ os, 0 ≤ o ∧ o < (ns.length : Int) := fun o ho => up_mem.mp (tk.subset ho)
    have osl : os.length = ns.length := by rw [tk.length_eq, up_len]
    have tl : (turnL ns os).length = ns.length := by unfold turnL; rw [List.length_map, osl]
    replace ol : (A.take (turnL ns os).length).length = ns.length := ol.trans tl
    replace ho : G2 o = some (.tup ((A.take (turnL ns os).length).map V.int)) := ho
    replace hi : G2 i = some (.tup ((A.drop (turnL ns os).length).map V.int)) := hi
    replace q : ∀ H' r, Same G2 H' → H' r = some (.tup ((putL (rep0 ns.length) os (A.take (turnL ns os).length) ++ A.drop (turnL ns os).length).map V.int)) → Q (.ref r) H' := q
    generalize A.take (turnL ns os).length = B at *
    generalize hC : A.drop (turnL ns os).length = C at *
    have Cl : C.length ≤ 90 := by rw [← hC, List.length_drop]; omega
    refine seq_with (fun σ G => False) (fun σ G h => h.elim) (fun R hR => ?_)
    clear hR
    wp_walk using rRepT, tSeq, tIfS, inV, eqV
    refine ⟨_, hp, _, atI_nat (j := 0) rfl, rfl, ?_⟩
    rw [if_pos rfl]
    refine CompT.mk (xs := ns.map V.int) (.of ha) (fun j ys σ G' => G' = G2 ∧ ys = (rep0 j).map V.int ∧ ∃ y, σ = [y]) ⟨rfl, rfl, _, rfl⟩ (fun j ys σ G' _ h => by rw [h.1]; exact .of ha) (fun j x ys σ G' ex h => ?_) (fun ys σ G' h p1 hp1 => ?_)
    · obtain ⟨rfl, rfl, y, rfl⟩ := h
      have jl := (List.getElem?_eq_some_iff.mp ex).1
      rw [len_map] at jl
      have sm : ((rep0 j).map V.int).length < sizeLine := by rw [List.length_map, rep0_len]; exact small1000 (by omega)
      refine ⟨sm, ?_⟩
      wp_walk using rRepT, tSeq, tIfS, inV, eqV
      exact ⟨by unfold rep0; rw [List.replicate_succ', List.map_append]; rfl, _, rfl⟩
    · obtain ⟨rfl, rfl, y, rfl⟩ := h
      rw [len_map]
      have sp := same_new hp1 (.lst ((rep0 ns.length).map V.int))
      refine ⟨_, sp _ _ hp, _, atI_nat (j := 1) rfl, ?_⟩
      refine LoopZ.mk (xs := os.map V.int) (ys := B.map V.int) os.length (by rw [len_map, len_map]; omega) (.of (sp _ _ he)) (.of (sp _ _ ho)) (fun j σ H' => ∃ (T : List Int) (y7 y8 : Option V), Same G' H' ∧ H' p1 = some (.lst (T.map V.int)) ∧ T.length = ns.length ∧ putL T (os.drop j) (B.drop j) = putL (rep0 ns.length) os B ∧ σ = [some (.ref p), some (.ref a), some (.ref b), some (.ref c), some (.ref o), some (.ref i), some (.ref p1), y7, y8, none]) ⟨rep0 ns.length, _, _, sp, upd_same, rep0_len _, rfl, rfl⟩ (fun j σ H' _ h => by obtain ⟨T, y7, y8, sH, _⟩ := h; exact ⟨.of (sH _ _ he), .of (sH _ _ ho)⟩) (fun j x y σ H' T0 hj ex ey h hT => ?_) (fun σ H' h => ?_)
      · obtain ⟨T, y7, y8, sH, hl, Tl, pe, rfl⟩ := h
        obtain ⟨k, rfl, hk⟩ := int_at ex
        obtain ⟨z, rfl, hz⟩ := int_at ey
        have kb := om k (List.mem_of_getElem? hk)
        have jl := (List.getElem?_eq_some_iff.mp hk).1
        have jz := (List.getElem?_eq_some_iff.mp hz).1
        have ne : p1 ≠ T0 := fun w => by rw [← w, hl] at hT; cases hT
        wp_walk using rRepT, tSeq, tIfS, inV, eqV
        refine ⟨_, by rw [upd_ne ne]; exact hl, k.toNat, by rw [len_map]; exact ixN_natI (by omega) (by omega), same_put (sH.trans (same_new hT _)) hp1, T.set k.toNat z, by rw [List.map_set], by rw [List.length_set]; exact Tl, ?_, _, rfl⟩
        rw [List.drop_eq_getElem_cons jl, List.drop_eq_getElem_cons jz] at pe
        have e1 : os[j] = k := by rw [List.getElem?_eq_getElem jl] at hk; cases hk; rfl
        have e2 : B[j] = z := by rw [List.getElem?_eq_getElem jz] at hz; cases hz; rfl
        rw [e1, e2] at pe
        exact pe
      · obtain ⟨T, y7, y8, sH, hl, Tl, pe, rfl⟩ := h
        rw [List.drop_eq_nil_of_le (Nat.le_refl _)] at pe
        have pe : T = putL (rep0 ns.length) os B := by rw [← pe]; unfold putL; rfl
        wp_walk using rRepT, tSeq, tIfS, inV, eqV
        refine ⟨_, .inl ⟨.of hl, fun t ht => ⟨_, same_new ht _ _ _ (sH _ _ hi), small (by rw [List.length_map, List.length_map]; omega), fun r G s hr => q _ r (sH.trans ((same_new ht _).trans s)) ?_⟩⟩⟩
        rw [hr, pe, List.map_append]
  | lead ms =>
    obtain ⟨e, hp, he, ml⟩ := hd
    have nl : ns.length ≤ ms.length := by have := congrArg List.length (flt_lead nf); rw [List.length_take] at this; omega
    refine seq_with (fun σ G => G = G2 ∧ σ = [some (.ref p), some (.ref a), some (.ref b), some (.ref c), some (.ref o), some (.ref i), none, none, none, none]) ?_ (fun R hR => ?_)
    rotate_left
    · wp_walk using rRepT, tSeq, tIfS, inV, eqV
      refine ⟨_, hp, _, atI_nat (j := 0) rfl, rfl, ?_⟩
      rw [if_neg (show ¬ V.str (Str.ofString "lead") = V.str (Str.ofString "turn") from fun z => absurd (V.str.inj z) (by decide +kernel))]
      exact hR _ _ ⟨rfl, rfl⟩
    rintro σ3 G3 ⟨rfl, rfl⟩
    refine seq_with (fun σ G => False) (fun σ G h => h.elim) (fun R hR => ?_)
    clear hR
    wp_walk using rRepT, tSeq, tIfS, inV, eqV
    refine ⟨_, hp, _, atI_nat (j := 0) rfl, rfl, ?_⟩
    rw [if_pos rfl]
    refine ⟨_, .inr (.of ha), _, ho, fun r1 K1 s1 h1 => ?_⟩
    rw [len_map, cut_any] at h1
    refine ⟨_, h1, _, s1 _ _ hi, small (by simp only [List.length_append, List.length_map, List.length_take, List.length_drop]; omega), fun r2 K2 s2 h2 => q _ r2 (s1.trans s2) ?_⟩
    rw [h2, ← List.map_append, List.take_take, Nat.min_eq_left (by exact nl)]; rfl
  | spread side m =>
    obtain ⟨hp, m0, m1⟩ := hd
    obtain ⟨no, nm, nb⟩ := flt_spread nf
    obtain ⟨k, rfl⟩ : ∃ k : Nat, side = k := ⟨side.toNat, by unfold off1 at no; omega⟩
    have kl : k ≤ ns.length := by unfold off1 at no; omega
    have il : (sdsD ns (.spread (k : Int) m)).length = ns.length + 1 := ins_len ..
    refine seq_with (fun σ G => G = G2 ∧ σ = [some (.ref p), some (.ref a), some (.ref b), some (.ref c), some (.ref o), some (.ref i), none, none, none, none]) ?_ (fun R hR => ?_)
    rotate_left
    · wp_walk using rRepT, tSeq, tIfS, inV, eqV
      refine ⟨_, hp, _, atI_nat (j := 0) rfl, rfl, ?_⟩
      rw [if_neg (show ¬ V.str (Str.ofString "spread") = V.str (Str.ofString "turn") from fun z => absurd (V.str.inj z) (by decide +kernel))]
      exact hR _ _ ⟨rfl, rfl⟩
    rintro σ3 G3 ⟨rfl, rfl⟩
    refine seq_with (fun σ G => G = G3 ∧ σ = [some (.ref p), some (.ref a), some (.ref b), some (.ref c), some (.ref o), some (.ref i), none, none, none, none]) ?_ (fun R hR => ?_)
    rotate_left
    · wp_walk using rRepT, tSeq, tIfS, inV, eqV
      refine ⟨_, hp, _, atI_nat (j := 0) rfl, rfl, ?_⟩
      rw [if_neg (show ¬ V.str (Str.ofString "spread") = V.str (Str.ofString "lead") from fun z => absurd (V.str.inj z) (by decide +kernel))]
      exact hR _ _ ⟨rfl, rfl⟩
    rintro σ4 G4 ⟨rfl, rfl⟩
    refine seq_with (fun σ G => G = G4 ∧ σ = [some (.ref p), some (.ref a), some (.ref b), some (.ref c), some (.ref o), some (.ref i), none, none, none, some (.int k)]) ?_ (fun R hR => ?_)
    rotate_left
    · wp_walk using rRepT, tSeq, tIfS, inV, eqV
      exact ⟨_, hp, _, atI_nat (j := 1) rfl, hR _ _ ⟨rfl, rfl⟩⟩
    rintro σ5 G5 ⟨rfl, rfl⟩
    refine seq_with (fun σ G => False) (fun σ G h => h.elim) (fun R hR => ?_)
    clear hR
    wp_walk using rRepT, tSeq, tIfS, inV, eqV
    refine ⟨_, hp, _, atI_nat (j := 0) rfl, rfl, ?_⟩
    rw [if_pos rfl]
    refine ⟨_, ho, fun r1 K1 s1 h1 => ⟨_, s1 _ _ ho, fun r2 K2 s2 h2 => ?_⟩⟩
    rw [cut_any] at h1
    rw [show (k : Int) + 1 = ((k + 1 : Nat) : Int) by omega, cut_anyH] at h2
    refine ⟨_, s2 _ _ h1, _, h2, small (by simp only [List.length_map, List.length_take, List.length_drop]; omega), fun r3 K3 s3 h3 => ⟨_, h3, _, (s1.trans (s2.trans s3)) _ _ hi, small (by simp only [List.length_append, List.length_map, List.length_take, List.length_drop]; omega), fun r4 K4 s4 h4 => q _ r4 (s1.trans (s2.trans (s3.trans s4))) ?_⟩⟩
    show _ = some (HO.tup (List.map V.int (A.eraseIdx (k : Int).toNat)))
    rw [h4, ← List.map_append, ← List.map_append, mid_erase (by omega) (by omega), Int.toNat_natCast]
  | inner side =>
    have hp : G2 p = some (.tup [.str (Str.ofString "inner"), .int side]) := hd
    obtain ⟨k, rfl, kl⟩ := side_nat (flt_inner nf)
    have il : (sdsD ns (.inner (k : Int))).length = ns.length - 1 := by show (ns.eraseIdx (k : Int).toNat).length = _; rw [Int.toNat_natCast, List.length_eraseIdx, if_pos kl]
    have ll : (lensD ns L (.inner (k : Int))).length = L.length + 1 := rfl
    refine seq_with (fun σ G => G = G2 ∧ σ = [some (.ref p), some (.ref a), some (.ref b), some (.ref c), some (.ref o), some (.ref i), none, none, none, none]) ?_ (fun R hR => ?_)
    rotate_left
    · wp_walk using rRepT, tSeq, tIfS, inV, eqV
      refine ⟨_, hp, _, atI_nat (j := 0) rfl, rfl, ?_⟩
      rw [if_neg (show ¬ V.str (Str.ofString "inner") = V.str (Str.ofString "turn") from fun z => absurd (V.str.inj z) (by decide +kernel))]
      exact hR _ _ ⟨rfl, rfl⟩
    rintro σ3 G3 ⟨rfl, rfl⟩
    refine seq_with (fun σ G => G = G3 ∧ σ = [some (.ref p), some (.ref a), some (.ref b), some (.ref c), some (.ref o), some (.ref i), none, none, none, none]) ?_ (fun R hR => ?_)
    rotate_left
    · wp_walk using rRepT, tSeq, tIfS, inV, eqV
      refine ⟨_, hp, _, atI_nat (j := 0) rfl, rfl, ?_⟩
      rw [if_neg (show ¬ V.str (Str.ofString "inner") = V.str (Str.ofString "lead") from fun z => absurd (V.str.inj z) (by decide +kernel))]
      exact hR _ _ ⟨rfl, rfl⟩
    rintro σ4 G4 ⟨rfl, rfl⟩
    refine seq_with (fun σ G => G = G4 ∧ σ = [some (.ref p), some (.ref a), some (.ref b), some (.ref c), some (.ref o), some (.ref i), none, none, none, some (.int k)]) ?_ (fun R hR => ?_)
    rotate_left
    · wp_walk using rRepT, tSeq, tIfS, inV, eqV
      exact ⟨_, hp, _, atI_nat (j := 1) rfl, hR _ _ ⟨rfl, rfl⟩⟩
    rintro σ5 G5 ⟨rfl, rfl⟩
    refine seq_with (fun σ G => G = G5 ∧ σ = [some (.ref p), some (.ref a), some (.ref b), some (.ref c), some (.ref o), some (.ref i), none, none, none, some (.int k)]) ?_ (fun R hR => ?_)
    rotate_left
    · wp_walk using rRepT, tSeq, tIfS, inV, eqV
      refine ⟨_, hp, _, atI_nat (j := 0) rfl, rfl, ?_⟩
      rw [if_neg (show ¬ V.str (Str.ofString "inner") = V.str (Str.ofString "spread") from fun z => absurd (V.str.inj z) (by decide +kernel))]
      exact hR _ _ ⟨rfl, rfl⟩
    rintro σ6 G6 ⟨rfl, rfl⟩
    refine seq_with (fun σ G => False) (fun σ G h => h.elim) (fun R hR => ?_)
    clear hR
    wp_walk using rRepT, tSeq, tIfS, inV, eqV
    refine ⟨_, hp, _, atI_nat (j := 0) rfl, rfl, ?_⟩
    rw [if_pos rfl]
    refine ⟨_, ho, fun r1 K1 s1 h1 => ⟨_, s1 _ _ hi, fun r2 K2 s2 h2 => ?_⟩⟩
    rw [cut_any] at h1
    rw [show (some (1 : Int)) = some ((1 : Nat) : Int) from rfl, cut_any] at h2
    refine ⟨_, s2 _ _ h1, _, h2, small (by simp only [List.length_map, List.length_take, List.length_drop]; omega), fun r3 K3 s3 h3 => ⟨_, (s1.trans (s2.trans s3)) _ _ ho, fun r4 K4 s4 h4 => ?_⟩⟩
    rw [cut_anyH] at h4
    refine ⟨_, s4 _ _ h3, _, h4, small (by simp only [List.length_append, List.length_map, List.length_take, List.length_drop]; omega), fun r5 K5 s5 h5 => ⟨_, (s1.trans (s2.trans (s3.trans (s4.trans s5)))) _ _ hi, fun r6 K6 s6 h6 => ?_⟩⟩
    rw [show (some (1 : Int)) = some ((1 : Nat) : Int) from rfl, cut_anyH] at h6
    refine ⟨_, s6 _ _ h5, _, h6, small (by simp only [List.length_append, List.length_map, List.length_take, List.length_drop]; omega), fun r7 K7 s7 h7 => q _ r7 (s1.trans (s2.trans (s3.trans (s4.trans (s5.trans (s6.trans s7)))))) ?_⟩
    show _ = some (HO.tup (List.map V.int (insL (A.eraseIdx (sdsD ns (.inner (k : Int))).length) (k : Int).toNat (A.getD (sdsD ns (.inner (k : Int))).length 0))))
    rw [h7, ← List.map_append, ← List.map_append, ← List.map_append, mid_ins (by omega) (by omega), Int.toNat_natCast]
  | flip side =>
    have hp : G2 p = some (.tup [.str (Str.ofString "flip"), .int side]) := hd
    obtain ⟨k, rfl, kl⟩ := side_nat (flt_flip nf)
    replace ho : G2 o = some (.tup ((A.take ns.length).map V.int)) := ho
    replace hi : G2 i = some (.tup ((A.drop ns.length).map V.int)) := hi
    replace bl : ns.length ≤ A.length := bl
    have eo : (A.take ns.length).getD k 0 = A.getD k 0 := by rw [List.getD_eq_getElem?_getD, List.getElem?_take_of_lt kl, List.getD_eq_getElem?_getD]
    have ok : atI ((A.take ns.length).map V.int) (k : Int) = some (.int (A.getD k 0)) := by rw [← eo]; exact at_side (by rw [List.length_take]; omega)
    refine seq_with (fun σ G => G = G2 ∧ σ = [some (.ref p), some (.ref a), some (.ref b), some (.ref c), some (.ref o), some (.ref i), none, none, none, none]) ?_ (fun R hR => ?_)
    rotate_left
    · wp_walk using rRepT, tSeq, tIfS, inV, eqV
      refine ⟨_, hp, _, atI_nat (j := 0) rfl, rfl, ?_⟩
      rw [if_neg (show ¬ V.str (Str.ofString "flip") = V.str (Str.ofString "turn") from fun z => absurd (V.str.inj z) (by decide +kernel))]
      exact hR _ _ ⟨rfl, rfl⟩
    rintro σ3 G3 ⟨rfl, rfl⟩
    refine seq_with (fun σ G => G = G3 ∧ σ = [some (.ref p), some (.ref a), some (.ref b), some (.ref c), some (.ref o), some (.ref i), none, none, none, none]) ?_ (fun R hR => ?_)
    rotate_left
    · wp_walk using rRepT, tSeq, tIfS, inV, eqV
      refine ⟨_, hp, _, atI_nat (j := 0) rfl, rfl, ?_⟩
      rw [if_neg (show ¬ V.str (Str.ofString "flip") = V.str (Str.ofString "lead") from fun z => absurd (V.str.inj z) (by decide +kernel))]
      exact hR _ _ ⟨rfl, rfl⟩
    rintro σ4 G4 ⟨rfl, rfl⟩
    refine seq_with (fun σ G => G = G4 ∧ σ = [some (.ref p), some (.ref a), some (.ref b), some (.ref c), some (.ref o), some (.ref i), none, none, none, some (.int k)]) ?_ (fun R hR => ?_)
    rotate_left
    · wp_walk using rRepT, tSeq, tIfS, inV, eqV
      exact ⟨_, hp, _, atI_nat (j := 1) rfl, hR _ _ ⟨rfl, rfl⟩⟩
    rintro σ5 G5 ⟨rfl, rfl⟩
    refine seq_with (fun σ G => G = G5 ∧ σ = [some (.ref p), some (.ref a), some (.ref b), some (.ref c), some (.ref o), some (.ref i), none, none, none, some (.int k)]) ?_ (fun R hR => ?_)
    rotate_left
    · wp_walk using rRepT, tSeq, tIfS, inV, eqV
      refine ⟨_, hp, _, atI_nat (j := 0) rfl, rfl, ?_⟩
      rw [if_neg (show ¬ V.str (Str.ofString "flip") = V.str (Str.ofString "spread") from fun z => absurd (V.str.inj z) (by decide +kernel))]
      exact hR _ _ ⟨rfl, rfl⟩
    rintro σ6 G6 ⟨rfl, rfl⟩
    refine seq_with (fun σ G => G = G6 ∧ σ = [some (.ref p), some (.ref a), some (.ref b), some (.ref c), some (.ref o), some (.ref i), none, none, none, some (.int k)]) ?_ (fun R hR => ?_)
    rotate_left
    · wp_walk using rRepT, tSeq, tIfS, inV, eqV
      refine ⟨_, hp, _, atI_nat (j := 0) rfl, rfl, ?_⟩
      rw [if_neg (show ¬ V.str (Str.ofString "flip") = V.str (Str.ofString "inner") from fun z => absurd (V.str.inj z) (by decide +kernel))]
      exact hR _ _ ⟨rfl, rfl⟩
    rintro σ7 G7 ⟨rfl, rfl⟩
    refine seq_with (fun σ G => G = G7 ∧ σ = [some (.ref p), some (.ref a), some (.ref b), some (.ref c), some (.ref o), some (.ref i), none, none, some (.int (ns.getD k 0 - 1 - A.getD k 0)), some (.int k)]) ?_ (fun R hR => ?_)
    rotate_left
    · wp_walk using rRepT, tSeq, tIfS, inV, eqV
      refine ⟨_, hp, _, atI_nat (j := 0) rfl, rfl, ?_⟩
      rw [if_pos rfl]
      exact ⟨_, ha, _, at_side kl, _, rfl, _, ho, _, ok, _, rfl, hR _ _ ⟨rfl, rfl⟩⟩
    rintro σ8 G8 ⟨rfl, rfl⟩
    wp_walk using rRepT, tSeq, tIfS, inV, eqV
    refine ⟨_, ho, fun r1 K1 s1 h1 => ⟨small (by decide), fun p4 hp4 => ?_⟩⟩
    rw [cut_any] at h1
    refine ⟨_, same_new hp4 _ _ _ h1, small (by simp only [List.length_map, List.length_take]; omega), fun r2 K2 s2 h2 => ⟨_, (s1.trans ((same_new hp4 _).trans s2)) _ _ ho, fun r3 K3 s3 h3 => ?_⟩⟩
    rw [show (k : Int) + 1 = ((k + 1 : Nat) : Int) by omega, cut_anyH] at h3
    refine ⟨_, s3 _ _ h2, _, h3, small (by simp only [List.length_append, List.length_map, List.length_take, List.length_drop, List.length_cons, List.length_nil]; omega), fun r4 K4 s4 h4 => ⟨_, h4, _, (s1.trans ((same_new hp4 _).trans (s2.trans (s3.trans s4)))) _ _ hi, small (by simp only [List.length_append, List.length_map, List.length_take, List.length_drop, List.length_cons, List.length_nil]; omega), fun r5 K5 s5 h5 => q _ r5 (s1.trans ((same_new hp4 _).trans (s2.trans (s3.trans (s4.trans s5))))) ?_⟩⟩
    show _ = some (HO.tup (List.map V.int (A.set (k : Int).toNat (ns.getD (k : Int).toNat 0 - 1 - A.getD (k : Int).toNat 0))))
    rw [h5, Int.toNat_natCast, ← mid_set (b := ns.length) kl bl, List.map_append, List.map_append, List.map_append]; rfl
  | cut side f m t =>
    obtain ⟨hp, hf, hg, m0, m1⟩ := hd
    obtain ⟨no, nb⟩ := flt_cut nf
    obtain ⟨k, rfl, kl⟩ := side_nat no
    have sl : (sdsD ns (.cut (k : Int) f m t)).length = ns.length := by show (ns.set _ _).length = _; rw [List.length_set]
    rw [sl] at ho hi bl
    have eo : (A.take ns.length).getD k 0 = A.getD k 0 := by rw [List.getD_eq_getElem?_getD, List.getElem?_take_of_lt kl, List.getD_eq_getElem?_getD]
    have ok : atI ((A.take ns.length).map V.int) (k : Int) = some (.int (A.getD k 0)) := by rw [← eo]; exact at_side (by rw [List.length_take]; omega)
    refine seq_with (fun σ G => G = G2 ∧ σ = [some (.ref p), some (.ref a), some (.ref b), some (.ref c), some (.ref o), some (.ref i), none, none, none, none]) ?_ (fun R hR => ?_)
    rotate_left
    · wp_walk using rRepT, tSeq, tIfS, inV, eqV
      refine ⟨_, hp, _, atI_nat (j := 0) rfl, rfl, ?_⟩
      rw [if_neg (show ¬ V.str (Str.ofString "cut") = V.str (Str.ofString "turn") from fun z => absurd (V.str.inj z) (by decide +kernel))]
      exact hR _ _ ⟨rfl, rfl⟩
    rintro σ3 G3 ⟨rfl, rfl⟩
    refine seq_with (fun σ G => G = G3 ∧ σ = [some (.ref p), some (.ref a), some (.ref b), some (.ref c), some (.ref o), some (.ref i), none, none, none, none]) ?_ (fun R hR => ?_)
    rotate_left
    · wp_walk using rRepT, tSeq, tIfS, inV, eqV
      refine ⟨_, hp, _, atI_nat (j := 0) rfl, rfl, ?_⟩
      rw [if_neg (show ¬ V.str (Str.ofString "cut") = V.str (Str.ofString "lead") from fun z => absurd (V.str.inj z) (by decide +kernel))]
      exact hR _ _ ⟨rfl, rfl⟩
    rintro σ4 G4 ⟨rfl, rfl⟩
    refine seq_with (fun σ G => G = G4 ∧ σ = [some (.ref p), some (.ref a), some (.ref b), some (.ref c), some (.ref o), some (.ref i), none, none, none, some (.int k)]) ?_ (fun R hR => ?_)
    rotate_left
    · wp_walk using rRepT, tSeq, tIfS, inV, eqV
      exact ⟨_, hp, _, atI_nat (j := 1) rfl, hR _ _ ⟨rfl, rfl⟩⟩
    rintro σ5 G5 ⟨rfl, rfl⟩
    refine seq_with (fun σ G => G = G5 ∧ σ = [some (.ref p), some (.ref a), some (.ref b), some (.ref c), some (.ref o), some (.ref i), none, none, none, some (.int k)]) ?_ (fun R hR => ?_)
    rotate_left
    · wp_walk using rRepT, tSeq, tIfS, inV, eqV
      refine ⟨_, hp, _, atI_nat (j := 0) rfl, rfl, ?_⟩
      rw [if_neg (show ¬ V.str (Str.ofString "cut") = V.str (Str.ofString "spread") from fun z => absurd (V.str.inj z) (by decide +kernel))]
      exact hR _ _ ⟨rfl, rfl⟩
    rintro σ6 G6 ⟨rfl, rfl⟩
    refine seq_with (fun σ G => G = G6 ∧ σ = [some (.ref p), some (.ref a), some (.ref b), some (.ref c), some (.ref o), some (.ref i), none, none, none, some (.int k)]) ?_ (fun R hR => ?_)
    rotate_left
    · wp_walk using rRepT, tSeq, tIfS, inV, eqV
      refine ⟨_, hp, _, atI_nat (j := 0) rfl, rfl, ?_⟩
      rw [if_neg (show ¬ V.str (Str.ofString "cut") = V.str (Str.ofString "inner") from fun z => absurd (V.str.inj z) (by decide +kernel))]
      exact hR _ _ ⟨rfl, rfl⟩
    rintro σ7 G7 ⟨rfl, rfl⟩
    refine seq_with (fun σ G => G = G7 ∧ σ = [some (.ref p), some (.ref a), some (.ref b), some (.ref c), some (.ref o), some (.ref i), none, none, some (.int (f + A.getD k 0 * t)), some (.int k)]) ?_ (fun R hR => ?_)
    rotate_left
    · wp_walk using rRepT, tSeq, tIfS, inV, eqV
      refine ⟨_, hp, _, atI_nat (j := 0) rfl, rfl, ?_⟩
      rw [if_neg (show ¬ V.str (Str.ofString "cut") = V.str (Str.ofString "flip") from fun z => absurd (V.str.inj z) (by decide +kernel))]
      exact ⟨_, hp, _, atI_nat (j := 2) rfl, _, ho, _, ok, _, hp, _, atI_nat (j := 4) rfl, _, rfl, _, rfl, .inr ⟨hg.1, hg.2⟩, _, rfl, hR _ _ ⟨rfl, rfl⟩⟩
    rintro σ8 G8 ⟨rfl, rfl⟩
    wp_walk using rRepT, tSeq, tIfS, inV, eqV
    refine ⟨_, ho, fun r1 K1 s1 h1 => ⟨small (by decide), fun p4 hp4 => ?_⟩⟩
    rw [cut_any] at h1
    refine ⟨_, same_new hp4 _ _ _ h1, small (by simp only [List.length_map, List.length_take]; omega), fun r2 K2 s2 h2 => ⟨_, (s1.trans ((same_new hp4 _).trans s2)) _ _ ho, fun r3 K3 s3 h3 => ?_⟩⟩
    rw [show (k : Int) + 1 = ((k + 1 : Nat) : Int) by omega, cut_anyH] at h3
    refine ⟨_, s3 _ _ h2, _, h3, small (by simp only [List.length_append, List.length_map, List.length_take, List.length_drop, List.length_cons, List.length_nil]; omega), fun r4 K4 s4 h4 => ⟨_, h4, _, (s1.trans ((same_new hp4 _).trans (s2.trans (s3.trans s4)))) _ _ hi, small (by simp only [List.length_append, List.length_map, List.length_take, List.length_drop, List.length_cons, List.length_nil]; omega), fun r5 K5 s5 h5 => q _ r5 (s1.trans ((same_new hp4 _).trans (s2.trans (s3.trans (s4.trans s5))))) ?_⟩⟩
    show _ = some (HO.tup (List.map V.int (A.set (k : Int).toNat (f + A.getD (k : Int).toNat 0 * t))))
    rw [h5, Int.toNat_natCast, ← mid_set (b := ns.length) kl bl, List.map_append, List.map_append, List.map_append]; rfl
end
abbrev slawdrawn : Stmt := top 46
def splawdrawn : Sp := fun vs H Q _ => ∃ (la : Addr) (N : List Int) (left : Int), vs = [.ref la, .int left] ∧ H la = some (.tup (N.map V.int)) ∧ (∀ n ∈ N, 1 ≤ n ∧ n ≤ 512) ∧ N.length ≤ 80 ∧ ∀ H' p A, Same H H' → good N A → H' p = some (.tup (A.map V.int)) → Q (.ref p) H'
section
variable {P : Program} {w : World} {K : PySem.W.Frag} {mg : Str → Option Value} {base : Heap} {f : Addr} {fd : FuncData}
theorem sclawdrawn : FnScope ["lengths", "left", "at", "side"] ["lengths", "left"] (defScope slawdrawn) := ⟨rfl, rfl, rfl, by decide +kernel, rfl, by decide +kernel, by decide +kernel⟩
theorem oklawdrawn (F : Fun K "_law_drawn" "_law_drawn" slawdrawn f fd) : FnOk P w K mg base CX0 (1) f fd ["lengths", "left"] (splawdrawn) := by
  have sc := sclawdrawn
  refine F.ok sc (fun vs H Q E h => ?_) (fun cdv A outer s H vs Q E hr h => ?_)
  · obtain ⟨la, N, left, rfl, _⟩ := h; rfl
  obtain ⟨la, N, left, rfl, hl, nb, n80, q⟩ := h
  refine ⟨_, (pss_cons (ps_set (i := 2) sc.nd rfl (by first | exact Or.inl rfl | exact Or.inr rfl) (pe_tup pa_nil)) (pss_cons (ps_for PassesOwn.never rfl (pi_tup (pv 0)) (pg_name (i := 3) sc.nd rfl (Or.inl rfl)) (pss_cons (ps_set (i := 2) sc.nd rfl (by first | exact Or.inl rfl | exact Or.inr rfl) (pe_op op_catS (pv 2) (pe_tup (pa_cons (pe_op op_modN (pv 1) (pv 3)) pa_nil)))) (pss_one (ps_set (i := 1) sc.nd rfl (by first | exact Or.inl rfl | exact Or.inr rfl) (pe_op op_fdivW (pv 1) (pv 3)))))) (pss_one (ps_ret (pv 2))))), ?_⟩
  simp only [L2.start, List.length_cons, List.length_nil, List.replicate, List.cons_append, List.nil_append, Nat.reduceSub, Nat.reduceAdd, List.map_cons, List.map_nil]
  wp_walk using rRepT, tSeq, tIfS, inV, eqV
  refine ⟨small (by decide), fun p0 hp0 => ?_⟩
  have s0 := same_new hp0 (.tup [])
  obtain ⟨J, hJ⟩ : ∃ J : Nat → L2.St → Hp → Prop, J = (fun i σ G => ∃ (p : Addr) (A : List Int) (left : Int) (y : Option V), Same H G ∧ G p = some (.tup (A.map V.int)) ∧ good (N.take i) A ∧ i ≤ N.length ∧ σ = [some (.ref la), some (.int left), some (.ref p), y]) := ⟨_, rfl⟩
  refine LoopT.mk (xs := N.map V.int) (.of (s0 _ _ hl)) J (by rw [hJ]; exact ⟨p0, [], left, _, s0, upd_same, ⟨rfl, fun i m n e => by cases e⟩, Nat.zero_le _, rfl⟩) (fun i σ G _ h => by rw [hJ] at h; obtain ⟨_, _, _, _, s, _⟩ := h; exact .of (s _ _ hl)) (fun i x σ G ex h => ?_) (fun σ G h => ?_)
  · rw [hJ] at h
    obtain ⟨p, A, left, y, sG, hp, g, hi, rfl⟩ := h
    obtain ⟨n, rfl, hn⟩ := int_at ex
    have b := nb n (List.mem_of_getElem? hn)
    have il := (List.getElem?_eq_some_iff.mp hn).1
    have al := g.1
    rw [List.length_take] at al
    have fm := fmod_in (n := left) (r := n) (by omega)
    wp_walk using rRepT, tSeq, tIfS, inV, eqV
    refine ⟨by omega, small (by decide), fun p1 hp1 => ⟨_, same_new hp1 _ _ _ hp, small (by rw [List.length_map]; omega), fun r G' s' hr => ⟨by omega, by omega, by omega, ?_⟩⟩⟩
    rw [hJ]
    exact ⟨r, A ++ [left.fmod n], _, _, sG.trans ((same_new hp1 _).trans s'), by rw [hr, List.map_append]; rfl, good_snoc hn g fm.1 fm.2, il, rfl⟩
  · rw [hJ] at h
    obtain ⟨p, A, left, y, sG, hp, g, hi, rfl⟩ := h
    rw [len_map, List.take_length] at g
    wp_walk using rRepT, tSeq, tIfS, inV, eqV
    exact q _ _ A sG g hp
end
abbrev slawleads : Stmt := top 47
section
variable {P : Program} {w : World} {K : PySem.W.Frag} {mg : Str → Option Value} {base : Heap} {f : Addr} {fd : FuncData}
theorem sclawleads : FnScope ["sides", "view", "done", "lengths", "left", "at", "found", "doing", "ahead", "behind", "place", "side", "one"] ["sides", "view", "done", "lengths", "left"] (defScope slawleads) := ⟨rfl, rfl, rfl, by decide +kernel, rfl, by decide +kernel, by decide +kernel⟩
theorem oklawleads (F : Fun K "_law_leads" "_law_leads" slawleads f fd) (clawdrawn : Callee P w K mg base CX0 (2) "_law_drawn" ["lengths", "left"] splawdrawn) (cspotof : Callee P w K mg base CX0 (2) "spot_of" ["view", "at"] spspotof) (clawback : Callee P w K mg base CX0 (2) "_law_back" ["doing", "sides", "behind", "at"] splback) (zreversed : mg "reversed" = none) (zzip : mg "zip" = none) (zisinstance : mg "isinstance" = none) (zint : mg "int" = none) (zbool : mg "bool" = none) : FnOk P w K mg base CX0 (3) f fd ["sides", "view", "done", "lengths", "left"] (splleads) := by
  have sc := sclawleads
  refine F.ok sc (fun vs H Q E h => ?_) (fun cdv A outer s H vs Q E hr h => ?_)
  · obtain ⟨fa, va, dl, la, first, ns, L, ss, st, left, rs, ds, rfl, _⟩ := h; rfl
  obtain ⟨fa, va, dl, la, first, ns, L, ss, st, left, rs, ds, rfl, hfa, vw, hdl, hst, hla, nb, n6, n80, sl, ch, hf, hsp, q⟩ := h
  refine ⟨_, (pss_cons (ps_set (i := 5) sc.nd rfl (by first | exact Or.inl rfl | exact Or.inr rfl) (pe_cal clawdrawn hr (by rfl) pass0 (pa_cons (pv 3) (pa_cons (pv 4) pa_nil)))) (pss_cons (ps_set (i := 6) sc.nd rfl (by first | exact Or.inl rfl | exact Or.inr rfl) (pe_cal cspotof hr (by rfl) pass0 (pa_cons (pv 1) (pa_cons (pv 5) pa_nil)))) (pss_cons (ps_for PassesOwn.never rfl (pi_revL (by rfl) zreversed (pv 2)) (pg_tupH (n := 3) (pg_tup rfl (pgs_cons (pg_name (i := 7) sc.nd rfl (Or.inl rfl)) (pgs_cons (pg_name (i := 8) sc.nd rfl (Or.inl rfl)) (pgs_cons (pg_name (i := 9) sc.nd rfl (Or.inl rfl)) pgs_nil))))) (pss_one (ps_set (i := 5) sc.nd rfl (by first | exact Or.inl rfl | exact Or.inr rfl) (pe_cal clawback hr (by rfl) pass0 (pa_cons (pv 7) (pa_cons (pv 8) (pa_cons (pv 9) (pa_cons (pv 5) pa_nil)))))))) (pss_cons (ps_set (i := 10) sc.nd rfl (by first | exact Or.inl rfl | exact Or.inr rfl) pe_int) (pss_cons (ps_for PassesOwn.never rfl (pi_zip (by rfl) zzip (pa_cons (pv 0) (pa_cons (pv 5) pa_nil))) (pg_tupH (n := 2) (pg_tup rfl (pgs_cons (pg_name (i := 11) sc.nd rfl (Or.inl rfl)) (pgs_cons (pg_name (i := 12) sc.nd rfl (Or.inl rfl)) pgs_nil)))) (pss_cons (ps_if (pw_or (pt_cmpR op_lt (pv 12) pe_int (nomark _)) (pw_or1 (pt_cmpR op_ge (pv 12) (pv 11) (nomark _)))).pt (pss_one (ps_ret pe_bl)) pss_nil) (pss_one (ps_set (i := 10) sc.nd rfl (by first | exact Or.inl rfl | exact Or.inr rfl) (pe_op op_add (pe_op op_mul (pv 10) (pv 11)) (pv 12)))))) (pss_one (ps_ret (pe_and (pe_callB call_isiS (by rfl) zisinstance boot_isinstance (pa_cons (pv 6) (pa_cons (pe_bltn (v := .ty "int") (by rfl) zint boot_int rfl) pa_nil))) (pe_and (pe_not (pe_callB call_isiS (by rfl) zisinstance boot_isinstance (pa_cons (pv 6) (pa_cons (pe_bltn (v := .ty "bool") (by rfl) zbool boot_bool rfl) pa_nil)))) (pe_one (pe_cmpR op_eq (pv 6) (pv 10) (nomark _)))))))))))), ?_⟩
  simp only [L2.start, List.length_cons, List.length_nil, List.replicate, List.cons_append, List.nil_append, Nat.reduceSub, Nat.reduceAdd, List.map_cons, List.map_nil]
  refine seq_with (fun σ G => ∃ (c : Addr) (A : List Int), Same H G ∧ G c = some (.tup (A.map V.int)) ∧ good (ns ++ L) A ∧ σ = [some (.ref fa), some (.ref va), some (.ref dl), some (.ref la), some (.int left), some (.ref c), none, none, none, none, none, none, none]) ?_ (fun R hR => ?_)
  rotate_left
  · wp_walk using rRepT, tSeq, tIfS, inV, eqV, splawdrawn
    exact ⟨_, hla, nb, n80, fun G p A s g hp => hR _ _ ⟨p, A, s, hp, g, rfl⟩⟩
  rintro σ1 G1 ⟨c, A, s1, hc, g, rfl⟩
  have al := g.1
  refine seq_with (fun σ G => Same G1 G ∧ σ = [some (.ref fa), some (.ref va), some (.ref dl), some (.ref la), some (.int left), some (.ref c), some (.int (plH first (backs ds.reverse A))), none, none, none, none, none, none]) ?_ (fun R hR => ?_)
  rotate_left
  · wp_walk using rRepT, tSeq, tIfS, inV, eqV, spspotof
    refine ⟨ns, ss, A, st, vw.same s1, hc, by omega, by omega, by rw [al, List.length_append]; omega, fun i m n e1 e2 => g.2 i m n e1 ?_, fun m hm => ?_, fun G s => ?_⟩
    · rw [List.getElem?_append_left (List.getElem?_eq_some_iff.mp e2).1]; exact e2
    · obtain ⟨i, hi⟩ := List.mem_iff_getElem?.mp hm
      have il := (List.getElem?_eq_some_iff.mp hi).1
      have z := g.2 i m _ hi (get_some (by omega))
      have y := nb _ (getD_memI (ns := ns ++ L) (k := i) (by omega))
      omega
    · rw [hsp A g]; exact hR _ _ ⟨s, rfl⟩
  rintro σ2 G2 ⟨s2, rfl⟩
  have t2 := s1.trans s2
  replace hc := s2 _ _ hc
  replace hdl := t2 _ _ hdl
  replace hst := hst.up (same_up t2)
  refine seq_with (fun σ G => ∃ (c : Addr) (B : List Int) (y7 y8 y9 : Option V), Same G2 G ∧ G c = some (.tup (B.map V.int)) ∧ good first B ∧ B = backs ds.reverse A ∧ σ = [some (.ref fa), some (.ref va), some (.ref dl), some (.ref la), some (.int left), some (.ref c), some (.int (plH first (backs ds.reverse A))), y7, y8, y9, none, none, none]) ?_ (fun R hR => ?_)
  rotate_left
  · wp_walk using rRepT, tSeq, tIfS, inV, eqV
    obtain ⟨J, hJ⟩ : ∃ J : Nat → L2.St → Hp → Prop, J = (fun i σ G => ∃ (c : Addr) (B N M : List Int) (y7 y8 y9 : Option V), Same G2 G ∧ G c = some (.tup (B.map V.int)) ∧ good (N ++ M) B ∧ (N ++ M).length ≤ 80 ∧ ChainR first (ds.reverse.drop i) N M ∧ backs (ds.reverse.drop i) B = backs ds.reverse A ∧ σ = [some (.ref fa), some (.ref va), some (.ref dl), some (.ref la), some (.int left), some (.ref c), some (.int (plH first (backs ds.reverse A))), y7, y8, y9, none, none, none]) := ⟨_, rfl⟩
    refine LoopVL.mk (xs := rs.map V.ref) (.of hdl) J (by rw [hJ]; exact ⟨c, A, ns, L, _, _, _, Same.refl _, hc, g, n80, ch, rfl, rfl⟩) (fun i σ G _ h => by rw [hJ] at h; obtain ⟨_, _, _, _, _, _, _, s, _⟩ := h; exact .of (s _ _ hdl)) (fun i x σ G hi ex h => ?_) (fun σ G h => ?_)
    · rw [hJ] at h
      obtain ⟨c, B, N, M, y7, y8, y9, sG, hc, g, nm, ch, be, rfl⟩ := h
      rw [List.length_map] at hi ex
      rw [List.getElem?_map] at ex
      obtain ⟨r, hr, rfl⟩ := Option.map_eq_some_iff.mp ex
      have dl' := hst.1
      have il : rs.length - 1 - i < ds.length := by omega
      obtain ⟨⟨d, ns0⟩, hx⟩ : ∃ y, ds[rs.length - 1 - i]? = some y := ⟨_, List.getElem?_eq_getElem il⟩
      obtain ⟨p, a, b, h1, h2, h3, h4⟩ := (hst.2 _ r _ hr hx).up (same_up sG)
      rw [dl'] at hx
      have rd := rev_drop (by omega) hx
      rw [rd] at ch be
      have ch2 : N = sdsD ns0 d ∧ fltD ns0 d = none ∧ ns0.length ≤ 6 ∧ ∃ L0, M = lensD ns0 L0 d ∧ ChainR first (ds.reverse.drop (i + 1)) ns0 L0 := ch
      obtain ⟨rfl, nf, l6, L0, rfl, ch⟩ := ch2
      have gl := g.1
      have lm := len_mono (L := L0) nf
      rw [List.length_append] at gl nm
      wp_walk using rRepT, tSeq, tIfS, inV, eqV, splback
      refine ⟨_, h1, rfl, _, _, rfl, _, _, rfl, _, _, rfl, rfl, p, rfl, a, rfl, b, rfl, ns0, L0, B, d, h2, h3, h4, hc, nf, l6, sds_len h2 l6, by omega, g, fun G' r' s' hr' => ?_⟩
      rw [hJ]
      exact ⟨r', _, ns0, L0, _, _, _, sG.trans s', hr', good_back nf g, by rw [List.length_append]; omega, by assumption, be, rfl⟩
    · rw [hJ] at h
      obtain ⟨c, B, N, M, y7, y8, y9, sG, hc, g, nm, ch, be, rfl⟩ := h
      have e : ds.reverse.drop (rs.map V.ref).length = [] := List.drop_eq_nil_of_le (by rw [List.length_reverse, List.length_map, hst.1]; exact Nat.le_refl _)
      rw [e] at ch be
      exact hR _ _ ⟨c, B, _, _, _, sG, hc, app_nil2 ch g, be, rfl⟩
  rintro σ3 G3 ⟨c, B, y7, y8, y9, s3, hc, g, rfl, rfl⟩
  generalize backs ds.reverse A = B at *
  have bl := g.1
  refine seq_with (fun σ G => G = G3 ∧ σ = [some (.ref fa), some (.ref va), some (.ref dl), some (.ref la), some (.int left), some (.ref c), some (.int (plH first B)), y7, y8, y9, some (.int 0), none, none]) ?_ (fun R hR => ?_)
  rotate_left
  · wp_walk using rRepT, tSeq, tIfS, inV, eqV
    exact hR _ _ ⟨rfl, rfl⟩
  rintro σ5 G5 ⟨rfl, rfl⟩
  refine seq_with (fun σ G => ∃ (y11 y12 : Option V), Same G5 G ∧ σ = [some (.ref fa), some (.ref va), some (.ref dl), some (.ref la), some (.int left), some (.ref c), some (.int (plH first B)), y7, y8, y9, some (.int (plH first B)), y11, y12]) ?_ (fun R hR => ?_)
  rotate_left
  · wp_walk using rRepT, tSeq, tIfS, inV, eqV
    have hfa3 := (t2.trans s3) _ _ hfa
    refine LoopZ.mk (xs := first.map V.int) (ys := B.map V.int) first.length (by rw [len_map, len_map]; omega) (.of hfa3) (.of hc) (fun i σ H' => ∃ y11 y12, Same G5 H' ∧ i ≤ first.length ∧ σ = [some (.ref fa), some (.ref va), some (.ref dl), some (.ref la), some (.int left), some (.ref c), some (.int (plH first B)), y7, y8, y9, some (.int (plH (first.take i) (B.take i))), y11, y12]) ⟨_, _, Same.refl _, Nat.zero_le _, rfl⟩ (fun i σ H' _ ⟨_, _, s, _⟩ => ⟨.of (s _ _ hfa3), .of (s _ _ hc)⟩) (fun i x y σ H' T hi ex ey h hT => ?_) (fun σ H' h => ?_)
    · obtain ⟨y11, y12, sH, hil, rfl⟩ := h
      obtain ⟨n, rfl, hn⟩ := int_at ex
      obtain ⟨m, rfl, hm⟩ := int_at ey
      have gi := g.2 i m n hm hn
      have fb := hf.1 n (List.mem_of_getElem? hn)
      wp_walk using rRepT, tSeq, tIfS, inV, eqV
      rw [if_neg (Int.not_lt.mpr gi.1), if_neg (Int.not_le.mpr gi.2), plH_take bl hn hm]
      exact ⟨.inr ⟨by omega, by omega⟩, sH.trans (same_new hT _), hi, rfl, _, rfl⟩
    · obtain ⟨y11, y12, sH, hil, rfl⟩ := h
      rw [List.take_length, ← bl, List.take_length]
      exact hR _ _ ⟨_, _, sH, rfl⟩
  rintro σ4 G4 ⟨y11, y12, s4, rfl⟩
  wp_walk using rRepT, tSeq, tIfS, inV, eqV
  exact q _ (t2.trans (s3.trans s4))
end
abbrev slaw : Stmt := top 48
def splaw : PySem.W.Frag → Sp := fun K => fun vs H Q _ => ∃ (a : Addr) (ns : List Int), vs = [.ref a] ∧ SqL K H a (ns.map V.int) ∧ ns.length ≤ 63 ∧ ∀ H', Q (.bl true) H'
section
variable {P : Program} {w : World} {K : PySem.W.Frag} {mg : Str → Option Value} {base : Heap} {f : Addr} {fd : FuncData}
theorem sclaw : FnScope ["script", "first", "view", "sides", "lengths", "done", "one", "doing", "behind", "word", "found", "told", "k"] ["script"] (defScope slaw) := ⟨rfl, rfl, rfl, by decide +kernel, rfl, by decide +kernel, by decide +kernel⟩
theorem oklaw (F : Fun K "law" "law" slaw f fd) (clawsides : Callee P w K mg base CX0 (8) "_law_sides" ["row", "room"] splawsides) (cplainview : Callee P w K mg base CX0 (8) "plain_view" ["sides"] spplainview) (clawdoing : Callee P w K mg base CX0 (8) "_law_doing" ["sides", "one", "kinds"] splawdoing) (clawbehind : Callee P w K mg base CX0 (8) "_law_behind" ["sides", "doing"] spbehind) (clawasked : Callee P w K mg base CX0 (8) "_law_asked" ["view", "doing"] splawasked) (clawleads : Callee P w K mg base CX0 (8) "_law_leads" ["sides", "view", "done", "lengths", "left"] splleads) (ztuple : mg "tuple" = none) (zmax : mg "max" = none) (zlen : mg "len" = none) (zisinstance : mg "isinstance" = none) (zrange : mg "range" = none) (zsum : mg "sum" = none) : FnOk P w K mg base CX0 (9) f fd ["script"] (splaw K) := by
  have sc := sclaw
  refine F.ok sc (fun vs H Q E h => ?_) (fun cdv A outer s H vs Q E hr h => ?_)
  · obtain ⟨a, ns, rfl, _⟩ := h; rfl
  obtain ⟨a, ns, rfl, hS, h63, q⟩ := h
  refine ⟨_, (pss_cons (ps_set (i := 1) sc.nd rfl (by first | exact Or.inl rfl | exact Or.inr rfl) (pe_callTy call_tuple_of (by rfl) ztuple boot_tuple (pa_cons (pe_comp0 (own := ["side"]) rfl (pi_tup (pe_cal clawsides hr (by rfl) pass0 (pa_cons (pe_slice sl_list (pv 0) (po_some pe_int) (po_some pe_int)) (pa_cons pe_int pa_nil)))) (by decide) (by decide) rfl (by decide) (fun _ _ _ _ => (pg_name (i := 0) (show (["side"] : List Str).Nodup by decide +kernel) rfl (Or.inl rfl))) (fun _ _ _ _ => (pe_callB (call_max2 rfl) (by rfl) zmax boot_max (pa_cons pe_int (pa_cons (pv 0) pa_nil))))) pa_nil))) (pss_cons (ps_if (pt_cmpR op_gt (pe_callB call_len_seq (by rfl) zlen PySem.boot_len (pa_cons (pv 0) pa_nil)) pe_int (nomark _)) (pss_one (ps_set (i := 1) sc.nd rfl (by first | exact Or.inl rfl | exact Or.inr rfl) (pe_slice sl_tupA (pv 1) po_none (po_some (pe_op op_mod (pe_ix ix_list (pv 0) pe_int (fun _ _ => rfl)) pe_int))))) pss_nil) (pss_cons (ps_set (i := 2) sc.nd rfl (by first | exact Or.inl rfl | exact Or.inr rfl) (pe_cal cplainview hr (by rfl) pass0 (pa_cons (pv 1) pa_nil))) (pss_cons (ps_set (i := 3) sc.nd rfl (by first | exact Or.inl rfl | exact Or.inr rfl) (pv 1)) (pss_cons (ps_set (i := 4) sc.nd rfl (by first | exact Or.inl rfl | exact Or.inr rfl) (pe_tup pa_nil)) (pss_cons (ps_set (i := 5) sc.nd rfl (by first | exact Or.inl rfl | exact Or.inr rfl) (pe_lst pa_nil)) (pss_cons (ps_for PassesOwn.never rfl (pi_list (pv 0)) (pg_name (i := 6) sc.nd rfl (Or.inl rfl)) (pss_cons (ps_set (i := 7) sc.nd rfl (by first | exact Or.inl rfl | exact Or.inr rfl) (pe_cal clawdoing hr (by rfl) pass0 (pa_cons (pv 3) (pa_cons (pv 6) (pa_cons pe_int pa_nil))))) (pss_cons (ps_asg (pe_cal clawbehind hr (by rfl) pass0 (pa_cons (pv 3) (pa_cons (pv 7) pa_nil))) (pg_tupH (n := 2) (pg_tup rfl (pgs_cons (pg_name (i := 8) sc.nd rfl (Or.inl rfl)) (pgs_cons (pg_name (i := 9) sc.nd rfl (Or.inl rfl)) pgs_nil))))) (pss_cons (ps_asg (pe_cal clawasked hr (by rfl) pass0 (pa_cons (pv 2) (pa_cons (pv 7) pa_nil))) (pg_tupH (n := 2) (pg_tup rfl (pgs_cons (pg_name (i := 10) sc.nd rfl (Or.inl rfl)) (pgs_cons (pg_name (i := 11) sc.nd rfl (Or.inl rfl)) pgs_nil))))) (pss_cons (ps_if (pt_cmpR op_ne (pv 11) (pv 9) (nomark _)) (pss_one (ps_ret pe_bl)) pss_nil) (pss_one (ps_if (pt_cmpR op_eq (pv 9) pe_str (nomark _)) (pss_cons (ps_if (pw_or (pt_not (pt_val (pe_callB call_isiTT (by rfl) zisinstance boot_isinstance (pa_cons (pv 10) (pa_cons (pe_bltn (v := .ty "tuple") (by rfl) ztuple boot_tuple rfl) pa_nil))))) (pw_or (pt_cmpR op_ne (pe_callB call_len_seq (by rfl) zlen PySem.boot_len (pa_cons (pv 10) pa_nil)) pe_int (nomark _)) (pw_or1 (pt_cmpR (op_neT hr.units0) (pe_ix ix_tupH (pv 10) pe_int (fun _ _ => rfl)) (pv 8) (nomark _))))).pt (pss_one (ps_ret pe_bl)) pss_nil) (pss_one (ps_if (pt_cmpR op_notIn_seq pe_int (pv 8) rfl) (pss_cons (ps_if (pt_cmpR op_eq (pe_ix ix_tupH (pv 7) pe_int (fun _ _ => rfl)) pe_str (nomark _)) (pss_one (ps_set (i := 4) sc.nd rfl (by first | exact Or.inl rfl | exact Or.inr rfl) (pe_op op_catS (pe_tup (pa_cons (pe_ix ix_tupH (pv 3) (pe_ix ix_tupH (pv 7) pe_int (fun _ _ => rfl)) (fun _ _ => rfl)) pa_nil)) (pv 4)))) pss_nil) (pss_cons (ps_expr (pe_app (pv 5) (pe_tup (pa_cons (pv 7) (pa_cons (pv 3) (pa_cons (pv 8) pa_nil)))))) (pss_cons (ps_set (i := 2) sc.nd rfl (by first | exact Or.inl rfl | exact Or.inr rfl) (pv 10)) (pss_one (ps_set (i := 3) sc.nd rfl (by first | exact Or.inl rfl | exact Or.inr rfl) (pv 8)))))) pss_nil))) pss_nil))))))) (pss_cons (ps_set (i := 4) sc.nd rfl (by first | exact Or.inl rfl | exact Or.inr rfl) (pe_op op_catS (pv 3) (pv 4))) (pss_cons (ps_for PassesOwn.never rfl (pi_range1 (by rfl) zrange (pa_cons pe_int pa_nil)) (pg_name (i := 12) sc.nd rfl (Or.inl rfl)) (pss_one (ps_if (pt_not (pt_val (pe_cal clawleads hr (by rfl) pass0 (pa_cons (pv 1) (pa_cons (pv 2) (pa_cons (pv 5) (pa_cons (pv 4) (pa_cons (pe_op op_add (pe_op op_mul (pe_op op_mul (pe_op op_fdiv (pe_callB (call_sumL rfl) (by rfl) zsum boot_sum (pa_cons (pv 0) pa_nil)) pe_int) (pv 12)) (pv 12)) (pe_op op_mul pe_int (pv 12))) pa_nil)))))))) (pss_one (ps_ret pe_bl)) pss_nil))) (pss_one (ps_ret pe_bl))))))))))), ?_⟩
  simp only [L2.start, List.length_cons, List.length_nil, List.replicate, List.cons_append, List.nil_append, Nat.reduceSub, Nat.reduceAdd, List.map_cons, List.map_nil]
  refine seq_with (fun σ G => ∃ (fa : Addr) (first : List Int), Same H G ∧ G fa = some (.tup (first.map V.int)) ∧ fit1 first ∧ σ = [some (.ref a), some (.ref fa), none, none, none, none, none, none, none, none, none, none, none]) ?_ (fun R hR => ?_)
  rotate_left
  · wp_walk using rRepT, tSeq, tIfS, inV, eqV, rSlL, splawsides
    refine ⟨_, hS, fun l hl => ?_⟩
    obtain ⟨ms, e, ml⟩ := cut16 ns
    rw [e]
    refine ⟨ms, rfl, ml, fun G1 p xs s1 hf xl hp => ?_⟩
    refine CompT.mk (xs := xs.map V.int) (.of hp) (fun i ys σ G' => G' = G1 ∧ ys = ((xs.map one1).take i).map V.int ∧ i ≤ xs.length ∧ ∃ y, σ = [y]) ⟨rfl, rfl, Nat.zero_le _, _, rfl⟩ (fun i ys σ G' _ h => by rw [h.1]; exact .of hp) (fun i x ys σ G' ex h => ?_) (fun ys σ G' h p1 hp1 => ?_)
    · obtain ⟨rfl, rfl, hi, y, rfl⟩ := h
      obtain ⟨n, rfl, hn⟩ := int_at ex
      have il := (List.getElem?_eq_some_iff.mp hn).1
      have n0 := (hf.1 n (List.mem_of_getElem? hn)).1
      have e1 : ((xs.map one1).take (i + 1)).map V.int = ((xs.map one1).take i).map V.int ++ [V.int (one1 n)] := by rw [List.take_add_one, List.getElem?_map, hn, List.map_append]; rfl
      have sm : (((xs.map one1).take i).map V.int).length < sizeLine := by rw [List.length_map, List.length_take, List.length_map]; exact small1000 (by omega)
      refine ⟨sm, ?_⟩
      wp_walk using rRepT, tSeq, tIfS, inV, eqV, one1_max n0
      exact ⟨e1.symm, il, _, rfl⟩
    · obtain ⟨rfl, rfl, hi, y, rfl⟩ := h
      rw [len_map, List.take_of_length_le (by rw [List.length_map]; exact Nat.le_refl _)]
      exact ⟨p1, rfl, _, .inl ⟨.of upd_same, fun t ht => hR _ _ ⟨t, _, (same_new hl _).trans (s1.trans ((same_new hp1 _).trans (same_new ht _))), upd_same, fit1_map hf, rfl⟩⟩⟩
  rintro σ1 G1 ⟨fa, first, s1, hfa, hf, rfl⟩
  refine seq_with (fun σ G => ∃ (fa : Addr) (first : List Int), Same H G ∧ G fa = some (.tup (first.map V.int)) ∧ fit1 first ∧ σ = [some (.ref a), some (.ref fa), none, none, none, none, none, none, none, none, none, none, none]) ?_ (fun R hR => ?_)
  rotate_left
  · wp_walk using rRepT, tSeq, tIfS, inV, eqV
    have hS1 := s1.seq hS
    refine ⟨_, .inl hS1, ?_⟩
    rw [len_map]
    split
    · rename_i c
      obtain ⟨n0, e0⟩ : ∃ n0, atI (ns.map V.int) 0 = some (.int n0) := ⟨_, at_side (k := 0) (by omega)⟩
      refine ⟨_, hS1, _, e0, _, rfl, _, hfa, fun r G s h => ?_⟩
      obtain ⟨j, hj⟩ : ∃ j : Nat, n0 % 7 = j := ⟨(n0 % 7).toNat, by omega⟩
      rw [hj, cut_any] at h
      exact hR _ _ ⟨r, _, s1.trans s, h, fit1_take hf j, rfl⟩
    · exact hR _ _ ⟨fa, first, s1, hfa, hf, rfl⟩
  rintro σ2 G2 ⟨fa, first, s2, hfa, hf, rfl⟩
  have sd := fit_sdk hf.1
  have f6 := hf.1.2.1
  refine seq_with (fun σ G => ∃ va : Addr, Same G2 G ∧ VwAt G va first 0 (stL first first.length).reverse ∧ σ = [some (.ref a), some (.ref fa), some (.ref va), none, none, none, none, none, none, none, none, none, none]) ?_ (fun R hR => ?_)
  rotate_left
  · wp_walk using rRepT, tSeq, tIfS, inV, eqV, spplainview
    exact ⟨first, hfa, sd, by omega, fun G v ta s h1 h2 => hR _ _ ⟨v, s, ⟨fa, ta, h1, s _ _ hfa, h2⟩, rfl⟩⟩
  rintro σ3 G3 ⟨va, s3, hva, rfl⟩
  refine seq_with (fun σ G => G = G3 ∧ σ = [some (.ref a), some (.ref fa), some (.ref va), some (.ref fa), none, none, none, none, none, none, none, none, none]) ?_ (fun R hR => ?_)
  rotate_left
  · wp_walk using rRepT, tSeq, tIfS, inV, eqV
    exact hR _ _ ⟨rfl, rfl⟩
  rintro σ4 G4 ⟨rfl, rfl⟩
  refine seq_with (fun σ G => ∃ la : Addr, Same G4 G ∧ G la = some (.tup []) ∧ σ = [some (.ref a), some (.ref fa), some (.ref va), some (.ref fa), some (.ref la), none, none, none, none, none, none, none, none]) ?_ (fun R hR => ?_)
  rotate_left
  · wp_walk using rRepT, tSeq, tIfS, inV, eqV
    exact ⟨small (by decide), fun p hp => hR _ _ ⟨p, same_new hp _, upd_same, rfl⟩⟩
  rintro σ5 G5 ⟨la, s5, hla, rfl⟩
  refine seq_with (fun σ G => ∃ dl : Addr, Same G5 G ∧ G5 dl = none ∧ G dl = some (.lst []) ∧ σ = [some (.ref a), some (.ref fa), some (.ref va), some (.ref fa), some (.ref la), some (.ref dl), none, none, none, none, none, none, none]) ?_ (fun R hR => ?_)
  rotate_left
  · wp_walk using rRepT, tSeq, tIfS, inV, eqV
    exact ⟨Nat.zero_le _, fun o ho => hR _ _ ⟨o, same_new ho _, ho, upd_same, rfl⟩⟩
  rintro σ6 G6 ⟨dl, s6, fdl, hdl, rfl⟩
  have t5 := s2.trans (s3.trans s5)
  have fdl := same_none t5 fdl
  have stl : (stL first first.length).reverse.length = first.length := by rw [List.length_reverse]; unfold stL; rw [List.length_map, List.length_range]
  refine seq_with (fun σ G => ∃ (va sa la : Addr) (ms L ss : List Int) (st : Int) (rs : List Addr) (ds : List (Dg × List Int)), Same H G ∧ H dl = none ∧ G fa = some (.tup (first.map V.int)) ∧ G sa = some (.tup (ms.map V.int)) ∧ VwAt G va ms st ss ∧ G la = some (.tup (L.map V.int)) ∧ G dl = some (.lst (rs.map V.ref)) ∧ StsAt G rs ds ∧ rs.length ≤ 63 ∧ fit ms ∧ (∀ n ∈ ms ++ L, 1 ≤ n ∧ n ≤ 512) ∧ L.length ≤ 63 ∧ ss.length = ms.length + L.length ∧ ChainR first ds.reverse ms L ∧ (∀ A, good (ms ++ L) A → st + dotI A ss = plH first (backs ds.reverse A)) ∧ ∃ y6 y7 y8 y9 y10 y11, σ = [some (.ref a), some (.ref fa), some (.ref va), some (.ref sa), some (.ref la), some (.ref dl), y6, y7, y8, y9, y10, y11, none]) ?_ (fun R hR => ?_)
  rotate_left
  · wp_walk using rRepT, inV, eqV
    obtain ⟨J, hJ⟩ : ∃ J : Nat → L2.St → Hp → Prop, J = (fun i σ G => ∃ (va sa la : Addr) (ms L ss : List Int) (st : Int) (rs : List Addr) (ds : List (Dg × List Int)), Same H G ∧ H dl = none ∧ G fa = some (.tup (first.map V.int)) ∧ G sa = some (.tup (ms.map V.int)) ∧ VwAt G va ms st ss ∧ G la = some (.tup (L.map V.int)) ∧ G dl = some (.lst (rs.map V.ref)) ∧ StsAt G rs ds ∧ rs.length ≤ i ∧ fit ms ∧ (∀ n ∈ ms ++ L, 1 ≤ n ∧ n ≤ 512) ∧ L.length ≤ i ∧ ss.length = ms.length + L.length ∧ ChainR first ds.reverse ms L ∧ (∀ A, good (ms ++ L) A → st + dotI A ss = plH first (backs ds.reverse A)) ∧ i ≤ ns.length ∧ ∃ y6 y7 y8 y9 y10 y11, σ = [some (.ref a), some (.ref fa), some (.ref va), some (.ref sa), some (.ref la), some (.ref dl), y6, y7, y8, y9, y10, y11, none]) := ⟨_, rfl⟩
    refine LoopL.mk (xs := ns.map V.int) ((t5.trans s6).seq hS) J (by rw [hJ]; exact ⟨va, fa, la, first, [], _, 0, [], [], t5.trans s6, fdl, (s3.trans (s5.trans s6)) _ _ hfa, (s3.trans (s5.trans s6)) _ _ hfa, hva.same (s5.trans s6), s6 _ _ hla, hdl, ⟨rfl, fun i r x e => by cases e⟩, Nat.le_refl _, hf.1, fun n hn => by rw [List.append_nil] at hn; exact ⟨hf.2 n hn, (hf.1.1 n hn).2⟩, Nat.le_refl _, stl, ⟨rfl, rfl⟩, fun A _ => Int.zero_add _, Nat.zero_le _, _, _, _, _, _, _, rfl⟩) (fun i σ G _ h => by rw [hJ] at h; obtain ⟨_, _, _, _, _, _, _, _, _, sG, _⟩ := h; exact sG.seq hS) (fun i x σ G0 ex h => ?_) (fun σ G h => ?_)
    · rw [hJ] at h
      obtain ⟨va, sa, la, ms, L, ss, st, rs, ds, sG, fdl, hfa, hsa, hva, hla, hdl, hst, rsl, hft, h1, Ll, sl, ch, hsp, hi, y6, y7, y8, y9, y10, y11, rfl⟩ := h
      obtain ⟨one, rfl, hone⟩ := int_at ex
      have il := (List.getElem?_eq_some_iff.mp hone).1
      have sd := fit_sdk hft
      have m6 := hft.2.1
      have vo : vwOk ms ss := ⟨sd, m6, by omega, by omega⟩
      simp only [gName, List.set_cons_succ, List.set_cons_zero]
      refine seq_with (fun σ G => ∃ (p7 : Addr) (d : Dg), Same G0 G ∧ DgAt G p7 d ∧ ledOk ms d ∧ σ = [some (.ref a), some (.ref fa), some (.ref va), some (.ref sa), some (.ref la), some (.ref dl), some (.int one), some (.ref p7), y8, y9, y10, y11, none]) ?_ (fun R hR => ?_)
      rotate_left
      · wp_walk using rRepT, tSeq, tIfS, inV, eqV, splawdoing
        exact ⟨ms, hsa, hft.1, sd, m6, fit_room hft, hft, fun G p d s hd hl => hR _ _ ⟨p, d, s, hd, hl, rfl⟩⟩
      rintro σ1 G1 ⟨p7, d, u1, hd, hld, rfl⟩
      refine seq_with (fun σ G => ∃ (b : Addr) (w : Str), Same G1 G ∧ (fltD ms d = some w ∨ (fltD ms d = none ∧ w = Str.ofString "" ∧ G b = some (.tup ((sdsD ms d).map V.int)))) ∧ σ = [some (.ref a), some (.ref fa), some (.ref va), some (.ref sa), some (.ref la), some (.ref dl), some (.int one), some (.ref p7), some (.ref b), some (.str w), y10, y11, none]) ?_ (fun R hR => ?_)
      rotate_left
      · wp_walk using rRepT, tSeq, tIfS, inV, eqV, spbehind
        exact ⟨ms, u1 _ _ hsa, sd, fit_nbig hft, d, hd, fun G r s hr => by
          obtain ⟨b, w, h1, h2⟩ := hr
          exact ⟨_, h1, rfl, _, _, rfl, _, _, rfl, rfl, hR _ _ ⟨b, w, s, h2, rfl⟩⟩⟩
      rintro σ2 G2 ⟨b, w, u2, hw, rfl⟩
      have v2 := u1.trans u2
      refine seq_with (fun σ G => ∃ (f : V) (w2 : Str), Same G2 G ∧ ((fltD ms d = some w2 ∧ f = .non) ∨ (fltD ms d = none ∧ w2 = Str.ofString "" ∧ ∃ q, f = .ref q ∧ VwAt G q (sdsD ms d) (staD ms ss st d) (stsD ms ss d))) ∧ σ = [some (.ref a), some (.ref fa), some (.ref va), some (.ref sa), some (.ref la), some (.ref dl), some (.int one), some (.ref p7), some (.ref b), some (.str w), some f, some (.str w2), none]) ?_ (fun R hR => ?_)
      rotate_left
      · wp_walk using rRepT, tSeq, tIfS, inV, eqV, splawasked
        exact ⟨ms, ss, st, hva.same v2, vo, d, hd.same u2, fun G r s hr => by
          obtain ⟨f, w2, h1, h2⟩ := hr
          exact ⟨_, h1, rfl, _, _, rfl, _, _, rfl, rfl, hR _ _ ⟨f, w2, s, h2, rfl⟩⟩⟩
      rintro σ3 G3 ⟨f, w2, u3, hw2, rfl⟩
      have v3 := v2.trans u3
      have ew : w2 = w := by
        rcases hw with hw | ⟨hw, rfl, _⟩
        · rcases hw2 with ⟨h2, _⟩ | ⟨h2, _⟩
          · rw [hw] at h2; cases h2; rfl
          · rw [hw] at h2; cases h2
        · rcases hw2 with ⟨h2, _⟩ | ⟨_, rfl, _⟩
          · rw [hw] at h2; cases h2
          · rfl
      subst ew
      refine seq_with (fun σ G => G = G3 ∧ σ = [some (.ref a), some (.ref fa), some (.ref va), some (.ref sa), some (.ref la), some (.ref dl), some (.int one), some (.ref p7), some (.ref b), some (.str w2), some f, some (.str w2), none]) ?_ (fun R hR => ?_)
      rotate_left
      · wp_walk using rRepT, tSeq, tIfS, inV, eqV
        exact hR _ _ ⟨rfl, rfl⟩
      rintro σ4 G4 ⟨rfl, rfl⟩
      rcases hw with hw | ⟨hw, rfl, hb⟩
      · wp_walk using rRepT, tSeq, tIfS, inV, eqV
        rw [if_neg (flt_ne hw), hJ]
        exact ⟨va, sa, la, ms, L, ss, st, rs, ds, sG.trans v3, fdl, v3 _ _ hfa, v3 _ _ hsa, hva.same v3, v3 _ _ hla, v3 _ _ hdl, hst.up (same_up v3), by omega, hft, h1, by omega, sl, ch, hsp, il, _, _, _, _, _, _, rfl⟩
      rcases hw2 with ⟨h2, _⟩ | ⟨_, _, f, rfl, hf'⟩
      · rw [hw] at h2; cases h2
      obtain ⟨fs, ft, e1, e2, e3⟩ := id hf'
      have hb4 := u3 _ _ hb
      wp_walk using rRepT, tIfS, rIn
      refine seq_with (fun σ G => G = G4 ∧ σ = [some (.ref a), some (.ref fa), some (.ref va), some (.ref sa), some (.ref la), some (.ref dl), some (.int one), some (.ref p7), some (.ref b), some (.str (Str.ofString "")), some (.ref f), some (.str (Str.ofString "")), none]) ?_ (fun R hR => ?_)
      rotate_left
      · wp_walk using rRepT, tSeq, tIfS, rIn
        refine ⟨_, e1, _, .inr (.of e1), ?_⟩
        rw [if_neg (fun z => z rfl)]
        refine ⟨_, e1, _, atI_nat (j := 0) rfl, _, rfl, _, .of e2, _, .of hb4, flat_ints _, flat_ints _, ?_⟩
        rw [eqVs_dec, decide_eq_true rfl, if_neg (by decide)]
        exact hR _ _ ⟨rfl, rfl⟩
      rintro σ5 G5 ⟨rfl, rfl⟩
      wp_walk using rRepT, tIfS, rIn
      refine ⟨_, .inr (.of hb4), flat_ints _, ?_⟩
      rw [inV_int]
      by_cases nz : 0 ∈ sdsD ms d
      · rw [decide_eq_true nz, if_neg (by decide), hJ]
        exact ⟨va, sa, la, ms, L, ss, st, rs, ds, sG.trans v3, fdl, v3 _ _ hfa, v3 _ _ hsa, hva.same v3, v3 _ _ hla, v3 _ _ hdl, hst.up (same_up v3), by omega, hft, h1, by omega, sl, ch, hsp, il, _, _, _, _, _, _, rfl⟩
      rw [decide_eq_false nz, if_pos rfl]
      have hd5 := hd.same (u2.trans u3)
      have hf2 := fit_next hft hw hld
      have sl2 := sts_lens (L := L) hw sl
      have os := one_sides h1 hf2 hw nz
      have ch2 : ChainR first ((d, ms) :: ds.reverse) (sdsD ms d) (lensD ms L d) := ⟨rfl, hw, m6, L, rfl, ch⟩
      have hsp2 : ∀ A, good (sdsD ms d ++ lensD ms L d) A → staD ms ss st d + dotI A (stsD ms ss d) = plH first (backs ((d, ms) :: ds.reverse) A) := fun A g => by
        have b := back_ok (st := st) hw sl g
        rw [b.2]; exact hsp _ b.1
      have ll := lens_le (ns := ms) (L := L) d
      refine seq_with (fun σ G => ∃ lb : Addr, Same G5 G ∧ G lb = some (.tup ((lensD ms L d).map V.int)) ∧ σ = [some (.ref a), some (.ref fa), some (.ref va), some (.ref sa), some (.ref lb), some (.ref dl), some (.int one), some (.ref p7), some (.ref b), some (.str (Str.ofString "")), some (.ref f), some (.str (Str.ofString "")), none]) ?_ (fun R hR => ?_)
      rotate_left
      · obtain ⟨xs, hpx⟩ := dg_word hd5
        wp_walk using rRepT, tSeq, tIfS, inV, eqV
        refine ⟨_, hpx, _, atI_nat (j := 0) rfl, rfl, ?_⟩
        by_cases c : kdD d = Str.ofString "inner"
        · rw [if_pos (congrArg V.str c)]
          obtain ⟨side, rfl⟩ := kd_inner c
          obtain ⟨k, rfl, kl⟩ := side_nat (flt_inner hw)
          have hpi : G5 p7 = some (.tup [.str (Str.ofString "inner"), .int (k : Int)]) := hd5
          refine ⟨_, hpi, _, atI_nat (j := 1) rfl, _, _, rfl, v3 _ _ hsa, _, at_side kl, small (by decide), fun p hp => ⟨_, same_new hp _ _ _ (v3 _ _ hla), small (by rw [List.length_map]; omega), fun r G' s' hr => hR _ _ ⟨r, (same_new hp _).trans s', hr, rfl⟩⟩⟩
        · rw [if_neg (fun z => c (V.str.inj z))]
          exact hR _ _ ⟨la, Same.refl _, by rw [lens_not c]; exact v3 _ _ hla, rfl⟩
      rintro σ6 G6 ⟨lb, u6, hlb, rfl⟩
      have v6 := v3.trans u6
      have hdl6 := v6 _ _ hdl
      wp_walk using rRepT, tSeq, tIfS, inV, eqV
      refine ⟨⟨_, hdl6⟩, small (by decide), fun t ht => ⟨_, same_new ht _ _ _ hdl6, by rw [List.length_map]; exact small1000 (by omega), ?_⟩⟩
      rw [hJ]
      have ut := same_new ht (.tup [V.ref p7, V.ref sa, V.ref b])
      have up0 : UpT (upd G6 t (.tup [V.ref p7, V.ref sa, V.ref b])) (upd (upd G6 t (.tup [V.ref p7, V.ref sa, V.ref b])) dl (.lst (rs.map V.ref ++ [V.ref t]))) := up_put (ut _ _ hdl6)
      have up1 := (same_up ut).trans up0
      have upa := (same_up v6).trans up1
      have up5 := (same_up u6).trans up1
      have rv : (ds ++ [(d, ms)]).reverse = (d, ms) :: ds.reverse := by simp
      exact ⟨f, b, lb, sdsD ms d, lensD ms L d, stsD ms ss d, staD ms ss st d, rs ++ [t], ds ++ [(d, ms)], same_put ((sG.trans v6).trans ut) fdl, fdl, upa _ _ hfa, up5 _ _ hb4, hf'.up up5, up1 _ _ hlb, by rw [upd_same, List.map_append]; rfl, (hst.up upa).snoc ⟨p7, sa, b, up0 _ _ upd_same, hd5.up up5, upa _ _ hsa, up5 _ _ hb4⟩, by rw [List.length_append, List.length_singleton]; omega, hf2, os, by omega, sl2, by rw [rv]; exact ch2, by rw [rv]; exact hsp2, il, _, _, _, _, _, _, rfl⟩
    · rw [hJ] at h
      obtain ⟨va, sa, la, ms, L, ss, st, rs, ds, sG, fdl, hfa, hsa, hva, hla, hdl, hst, rsl, hft, h1, Ll, sl, ch, hsp, hi, y6, y7, y8, y9, y10, y11, rfl⟩ := h
      rw [len_map] at rsl Ll
      exact hR _ _ ⟨va, sa, la, ms, L, ss, st, rs, ds, sG, fdl, hfa, hsa, hva, hla, hdl, hst, by omega, hft, h1, by omega, sl, ch, hsp, _, _, _, _, _, _, rfl⟩
  rintro σ7 G7 ⟨va, sa, la, ms, L, ss, st, rs, ds, sG, fdl, hfa, hsa, hva, hla, hdl, hst, rsl, hft, h1, Ll, sl, ch, hsp, y6, y7, y8, y9, y10, y11, rfl⟩
  refine seq_with (fun σ G => ∃ lb : Addr, Same G7 G ∧ G lb = some (.tup ((ms ++ L).map V.int)) ∧ σ = [some (.ref a), some (.ref fa), some (.ref va), some (.ref sa), some (.ref lb), some (.ref dl), y6, y7, y8, y9, y10, y11, none]) ?_ (fun R hR => ?_)
  rotate_left
  · wp_walk using rRepT, tSeq, tIfS, inV, eqV
    have m6 := hft.2.1
    exact ⟨_, hsa, _, hla, small (by rw [List.length_map, List.length_map]; omega), fun r G s h => hR _ _ ⟨r, s, by rw [h, List.map_append], rfl⟩⟩
  rintro σ8 G8 ⟨lb, s8, hlb, rfl⟩
  have m6 := hft.2.1
  refine seq_with (fun σ G => True) ?_ (fun R hR => ?_)
  rotate_left
  · wp_walk using rRepT, tSeq, tIfS, inV, eqV, splleads
    refine LoopR.mk (fun i σ G => Same G8 G ∧ ∃ y12, σ = [some (.ref a), some (.ref fa), some (.ref va), some (.ref sa), some (.ref lb), some (.ref dl), y6, y7, y8, y9, y10, y11, y12]) ⟨Same.refl _, _, rfl⟩ (fun i σ G hi h => ?_) (fun σ G h => ?_)
    · obtain ⟨sK, y12, rfl⟩ := h
      have t8 := s8.trans sK
      wp_walk using rRepT, tSeq, tIfS, inV, eqV, splleads
      exact ⟨ns, (sG.trans t8).seq hS, .inr ⟨by omega, by omega⟩, .inr ⟨by omega, by omega⟩, first, t8 _ _ hfa, ms, L, ss, st, hva.same t8, rs, t8 _ _ hdl, ds, hst.up (same_up t8), sK _ _ hlb, h1, m6, by rw [List.length_append]; omega, by rw [List.length_append]; exact sl, ch, hf.1, hsp, fun H' s => ⟨sK.trans s, _, rfl⟩⟩
    · exact hR _ _ trivial
  rintro σ9 G9 _
  wp_walk using rRepT, tSeq, tIfS, inV, eqV
  exact q _
end
theorem us_len1 {α : Type} {us : List α} (h : us.length = 1) : ∃ x0, us = [x0] := by
  match us, h with
  | [x0], _ => exact ⟨_, rfl⟩
theorem us_len2 {α : Type} {us : List α} (h : us.length = 2) : ∃ x0 x1, us = [x0, x1] := by
  match us, h with
  | [x0, x1], _ => exact ⟨_, _, rfl⟩
theorem us_len3 {α : Type} {us : List α} (h : us.length = 3) : ∃ x0 x1 x2, us = [x0, x1, x2] := by
  match us, h with
  | [x0, x1, x2], _ => exact ⟨_, _, _, rfl⟩
theorem us_len4 {α : Type} {us : List α} (h : us.length = 4) : ∃ x0 x1 x2 x3, us = [x0, x1, x2, x3] := by
  match us, h with
  | [x0, x1, x2, x3], _ => exact ⟨_, _, _, _, rfl⟩
theorem us_len5 {α : Type} {us : List α} (h : us.length = 5) : ∃ x0 x1 x2 x3 x4, us = [x0, x1, x2, x3, x4] := by
  match us, h with
  | [x0, x1, x2, x3, x4], _ => exact ⟨_, _, _, _, _, rfl⟩
theorem all_mk {l : PySem.W.OpenLaw} {w : World} {K : PySem.W.Frag} {h : Heap} {mg : Str → Option Value} {fa f0 f1 f2 f3 f4 f5 f6 f7 f8 f9 f10 f11 f12 f13 f14 f15 f16 f17 f18 f19 f20 f21 f22 f23 f24 f25 f26 f27 f28 f29 f30 f31 f32 f33 f34 f35 : Addr} (X : K.In h) (G : h.Ns mainGlobals mg) (hfa : mg "law" = some (.ref fa))
    {od0 an0 od1 an1 od2 an2 od3 an3 od4 an4 od5 an5 od6 an6 od7 an7 od8 an8 od9 an9 od10 an10 od11 an11 od12 an12 od13 an13 od14 an14 od15 an15 od16 an16 od17 an17 od18 an18 od19 an19 od20 an20 od21 an21 od22 an22 od23 an23 od24 an24 od25 an25 od26 an26 od27 an27 od28 an28 od29 an29 od30 an30 od31 an31 od32 an32 od33 an33 od34 an34 od35 an35 : Option Addr} {sl0 sl1 sl2 sl3 sl4 sl5 sl6 sl7 sl8 sl9 sl10 sl11 sl12 sl13 sl14 sl15 sl16 sl17 sl18 sl19 sl20 sl21 sl22 sl23 sl24 sl25 sl26 sl27 sl28 sl29 sl30 sl31 sl32 sl33 sl34 sl35 : Array (Option Value)} {oc0 kV0 dc0 pm0 ct0 cd0 oc1 kV1 dc1 pm1 ct1 cd1 oc2 kV2 dc2 pm2 ct2 cd2 oc3 kV3 dc3 pm3 ct3 cd3 oc4 kV4 dc4 pm4 ct4 cd4 oc5 kV5 dc5 pm5 ct5 cd5 oc6 kV6 dc6 pm6 ct6 cd6 oc7 kV7 dc7 pm7 ct7 cd7 oc8 kV8 dc8 pm8 ct8 cd8 oc9 kV9 dc9 pm9 ct9 cd9 oc10 kV10 dc10 pm10 ct10 cd10 oc11 kV11 dc11 pm11 ct11 cd11 oc12 kV12 dc12 pm12 ct12 cd12 oc13 kV13 dc13 pm13 ct13 cd13 oc14 kV14 dc14 pm14 ct14 cd14 oc15 kV15 dc15 pm15 ct15 cd15 oc16 kV16 dc16 pm16 ct16 cd16 oc17 kV17 dc17 pm17 ct17 cd17 oc18 kV18 dc18 pm18 ct18 cd18 oc19 kV19 dc19 pm19 ct19 cd19 oc20 kV20 dc20 pm20 ct20 cd20 oc21 kV21 dc21 pm21 ct21 cd21 oc22 kV22 dc22 pm22 ct22 cd22 oc23 kV23 dc23 pm23 ct23 cd23 oc24 kV24 dc24 pm24 ct24 cd24 oc25 kV25 dc25 pm25 ct25 cd25 oc26 kV26 dc26 pm26 ct26 cd26 oc27 kV27 dc27 pm27 ct27 cd27 oc28 kV28 dc28 pm28 ct28 cd28 oc29 kV29 dc29 pm29 ct29 cd29 oc30 kV30 dc30 pm30 ct30 cd30 oc31 kV31 dc31 pm31 ct31 cd31 oc32 kV32 dc32 pm32 ct32 cd32 oc33 kV33 dc33 pm33 ct33 cd33 oc34 kV34 dc34 pm34 ct34 cd34 oc35 kV35 dc35 pm35 ct35 cd35 : Value}
    (a0 : PySem.W.nsIn K mainGlobals "amount" = some (some (.ref f0))) (l0 : K.lookup f0 = some ⟨oc0, od0, .func (PySem.W.fnOf "amount" "amount" (defArgs samount) (defBody samount) (defScope samount) .none kV0 dc0 pm0 an0 cd0 ct0), sl0⟩) (q0 : PySem.W.codeIn K cd0 "amount" = true) (k0 : PySem.W.keepIn K (.ref f0) = true)
    (a1 : PySem.W.nsIn K mainGlobals "breadth" = some (some (.ref f1))) (l1 : K.lookup f1 = some ⟨oc1, od1, .func (PySem.W.fnOf "breadth" "breadth" (defArgs sbreadth) (defBody sbreadth) (defScope sbreadth) .none kV1 dc1 pm1 an1 cd1 ct1), sl1⟩) (q1 : PySem.W.codeIn K cd1 "breadth" = true) (k1 : PySem.W.keepIn K (.ref f1) = true)
    (a2 : PySem.W.nsIn K mainGlobals "allowed" = some (some (.ref f2))) (l2 : K.lookup f2 = some ⟨oc2, od2, .func (PySem.W.fnOf "allowed" "allowed" (defArgs sallowed) (defBody sallowed) (defScope sallowed) .none kV2 dc2 pm2 an2 cd2 ct2), sl2⟩) (q2 : PySem.W.codeIn K cd2 "allowed" = true) (k2 : PySem.W.keepIn K (.ref f2) = true)
    (a3 : PySem.W.nsIn K mainGlobals "strides_of" = some (some (.ref f3))) (l3 : K.lookup f3 = some ⟨oc3, od3, .func (PySem.W.fnOf "strides_of" "strides_of" (defArgs sstridesof) (defBody sstridesof) (defScope sstridesof) .none kV3 dc3 pm3 an3 cd3 ct3), sl3⟩) (q3 : PySem.W.codeIn K cd3 "strides_of" = true) (k3 : PySem.W.keepIn K (.ref f3) = true)
    (a4 : PySem.W.nsIn K mainGlobals "changed_at" = some (some (.ref f4))) (l4 : K.lookup f4 = some ⟨oc4, od4, .func (PySem.W.fnOf "changed_at" "changed_at" (defArgs schangedat) (defBody schangedat) (defScope schangedat) .none kV4 dc4 pm4 an4 cd4 ct4), sl4⟩) (q4 : PySem.W.codeIn K cd4 "changed_at" = true) (k4 : PySem.W.keepIn K (.ref f4) = true)
    (a5 : PySem.W.nsIn K mainGlobals "added_at" = some (some (.ref f5))) (l5 : K.lookup f5 = some ⟨oc5, od5, .func (PySem.W.fnOf "added_at" "added_at" (defArgs saddedat) (defBody saddedat) (defScope saddedat) .none kV5 dc5 pm5 an5 cd5 ct5), sl5⟩) (q5 : PySem.W.codeIn K cd5 "added_at" = true) (k5 : PySem.W.keepIn K (.ref f5) = true)
    (a6 : PySem.W.nsIn K mainGlobals "dropped_at" = some (some (.ref f6))) (l6 : K.lookup f6 = some ⟨oc6, od6, .func (PySem.W.fnOf "dropped_at" "dropped_at" (defArgs sdroppedat) (defBody sdroppedat) (defScope sdroppedat) .none kV6 dc6 pm6 an6 cd6 ct6), sl6⟩) (q6 : PySem.W.codeIn K cd6 "dropped_at" = true) (k6 : PySem.W.keepIn K (.ref f6) = true)
    (a7 : PySem.W.nsIn K mainGlobals "ask_side" = some (some (.ref f7))) (l7 : K.lookup f7 = some ⟨oc7, od7, .func (PySem.W.fnOf "ask_side" "ask_side" (defArgs saskside) (defBody saskside) (defScope saskside) .none kV7 dc7 pm7 an7 cd7 ct7), sl7⟩) (q7 : PySem.W.codeIn K cd7 "ask_side" = true) (k7 : PySem.W.keepIn K (.ref f7) = true)
    (a8 : PySem.W.nsIn K mainGlobals "turned_sides" = some (some (.ref f8))) (l8 : K.lookup f8 = some ⟨oc8, od8, .func (PySem.W.fnOf "turned_sides" "turned_sides" (defArgs sturnedsides) (defBody sturnedsides) (defScope sturnedsides) .none kV8 dc8 pm8 an8 cd8 ct8), sl8⟩) (q8 : PySem.W.codeIn K cd8 "turned_sides" = true) (k8 : PySem.W.keepIn K (.ref f8) = true)
    (a9 : PySem.W.nsIn K mainGlobals "flipped_sides" = some (some (.ref f9))) (l9 : K.lookup f9 = some ⟨oc9, od9, .func (PySem.W.fnOf "flipped_sides" "flipped_sides" (defArgs sflippedsides) (defBody sflippedsides) (defScope sflippedsides) .none kV9 dc9 pm9 an9 cd9 ct9), sl9⟩) (q9 : PySem.W.codeIn K cd9 "flipped_sides" = true) (k9 : PySem.W.keepIn K (.ref f9) = true)
    (a10 : PySem.W.nsIn K mainGlobals "cut_sides" = some (some (.ref f10))) (l10 : K.lookup f10 = some ⟨oc10, od10, .func (PySem.W.fnOf "cut_sides" "cut_sides" (defArgs scutsides) (defBody scutsides) (defScope scutsides) .none kV10 dc10 pm10 an10 cd10 ct10), sl10⟩) (q10 : PySem.W.codeIn K cd10 "cut_sides" = true) (k10 : PySem.W.keepIn K (.ref f10) = true)
    (a11 : PySem.W.nsIn K mainGlobals "spread_sides" = some (some (.ref f11))) (l11 : K.lookup f11 = some ⟨oc11, od11, .func (PySem.W.fnOf "spread_sides" "spread_sides" (defArgs sspreadsides) (defBody sspreadsides) (defScope sspreadsides) .none kV11 dc11 pm11 an11 cd11 ct11), sl11⟩) (q11 : PySem.W.codeIn K cd11 "spread_sides" = true) (k11 : PySem.W.keepIn K (.ref f11) = true)
    (a12 : PySem.W.nsIn K mainGlobals "led_sides" = some (some (.ref f12))) (l12 : K.lookup f12 = some ⟨oc12, od12, .func (PySem.W.fnOf "led_sides" "led_sides" (defArgs sledsides) (defBody sledsides) (defScope sledsides) .none kV12 dc12 pm12 an12 cd12 ct12), sl12⟩) (q12 : PySem.W.codeIn K cd12 "led_sides" = true) (k12 : PySem.W.keepIn K (.ref f12) = true)
    (a13 : PySem.W.nsIn K mainGlobals "folded_sides" = some (some (.ref f13))) (l13 : K.lookup f13 = some ⟨oc13, od13, .func (PySem.W.fnOf "folded_sides" "folded_sides" (defArgs sfoldedsides) (defBody sfoldedsides) (defScope sfoldedsides) .none kV13 dc13 pm13 an13 cd13 ct13), sl13⟩) (q13 : PySem.W.codeIn K cd13 "folded_sides" = true) (k13 : PySem.W.keepIn K (.ref f13) = true)
    (a14 : PySem.W.nsIn K mainGlobals "plain_view" = some (some (.ref f14))) (l14 : K.lookup f14 = some ⟨oc14, od14, .func (PySem.W.fnOf "plain_view" "plain_view" (defArgs splainview) (defBody splainview) (defScope splainview) .none kV14 dc14 pm14 an14 cd14 ct14), sl14⟩) (q14 : PySem.W.codeIn K cd14 "plain_view" = true) (k14 : PySem.W.keepIn K (.ref f14) = true)
    (a15 : PySem.W.nsIn K mainGlobals "turned_view" = some (some (.ref f15))) (l15 : K.lookup f15 = some ⟨oc15, od15, .func (PySem.W.fnOf "turned_view" "turned_view" (defArgs sturnedview) (defBody sturnedview) (defScope sturnedview) .none kV15 dc15 pm15 an15 cd15 ct15), sl15⟩) (q15 : PySem.W.codeIn K cd15 "turned_view" = true) (k15 : PySem.W.keepIn K (.ref f15) = true)
    (a16 : PySem.W.nsIn K mainGlobals "flipped_view" = some (some (.ref f16))) (l16 : K.lookup f16 = some ⟨oc16, od16, .func (PySem.W.fnOf "flipped_view" "flipped_view" (defArgs sflippedview) (defBody sflippedview) (defScope sflippedview) .none kV16 dc16 pm16 an16 cd16 ct16), sl16⟩) (q16 : PySem.W.codeIn K cd16 "flipped_view" = true) (k16 : PySem.W.keepIn K (.ref f16) = true)
    (a17 : PySem.W.nsIn K mainGlobals "cut_view" = some (some (.ref f17))) (l17 : K.lookup f17 = some ⟨oc17, od17, .func (PySem.W.fnOf "cut_view" "cut_view" (defArgs scutview) (defBody scutview) (defScope scutview) .none kV17 dc17 pm17 an17 cd17 ct17), sl17⟩) (q17 : PySem.W.codeIn K cd17 "cut_view" = true) (k17 : PySem.W.keepIn K (.ref f17) = true)
    (a18 : PySem.W.nsIn K mainGlobals "spread_view" = some (some (.ref f18))) (l18 : K.lookup f18 = some ⟨oc18, od18, .func (PySem.W.fnOf "spread_view" "spread_view" (defArgs sspreadview) (defBody sspreadview) (defScope sspreadview) .none kV18 dc18 pm18 an18 cd18 ct18), sl18⟩) (q18 : PySem.W.codeIn K cd18 "spread_view" = true) (k18 : PySem.W.keepIn K (.ref f18) = true)
    (a19 : PySem.W.nsIn K mainGlobals "led_view" = some (some (.ref f19))) (l19 : K.lookup f19 = some ⟨oc19, od19, .func (PySem.W.fnOf "led_view" "led_view" (defArgs sledview) (defBody sledview) (defScope sledview) .none kV19 dc19 pm19 an19 cd19 ct19), sl19⟩) (q19 : PySem.W.codeIn K cd19 "led_view" = true) (k19 : PySem.W.keepIn K (.ref f19) = true)
    (a20 : PySem.W.nsIn K mainGlobals "inner_view" = some (some (.ref f20))) (l20 : K.lookup f20 = some ⟨oc20, od20, .func (PySem.W.fnOf "inner_view" "inner_view" (defArgs sinnerview) (defBody sinnerview) (defScope sinnerview) .none kV20 dc20 pm20 an20 cd20 ct20), sl20⟩) (q20 : PySem.W.codeIn K cd20 "inner_view" = true) (k20 : PySem.W.keepIn K (.ref f20) = true)
    (a21 : PySem.W.nsIn K mainGlobals "spot_of" = some (some (.ref f21))) (l21 : K.lookup f21 = some ⟨oc21, od21, .func (PySem.W.fnOf "spot_of" "spot_of" (defArgs sspotof) (defBody sspotof) (defScope sspotof) .none kV21 dc21 pm21 an21 cd21 ct21), sl21⟩) (q21 : PySem.W.codeIn K cd21 "spot_of" = true) (k21 : PySem.W.keepIn K (.ref f21) = true)
    (a22 : PySem.W.nsIn K mainGlobals "_law_sides" = some (some (.ref f22))) (l22 : K.lookup f22 = some ⟨oc22, od22, .func (PySem.W.fnOf "_law_sides" "_law_sides" (defArgs slawsides) (defBody slawsides) (defScope slawsides) .none kV22 dc22 pm22 an22 cd22 ct22), sl22⟩) (q22 : PySem.W.codeIn K cd22 "_law_sides" = true) (k22 : PySem.W.keepIn K (.ref f22) = true)
    (a23 : PySem.W.nsIn K mainGlobals "_law_order" = some (some (.ref f23))) (l23 : K.lookup f23 = some ⟨oc23, od23, .func (PySem.W.fnOf "_law_order" "_law_order" (defArgs slaworder) (defBody slaworder) (defScope slaworder) .none kV23 dc23 pm23 an23 cd23 ct23), sl23⟩) (q23 : PySem.W.codeIn K cd23 "_law_order" = true) (k23 : PySem.W.keepIn K (.ref f23) = true)
    (a24 : PySem.W.nsIn K mainGlobals "_law_cut" = some (some (.ref f24))) (l24 : K.lookup f24 = some ⟨oc24, od24, .func (PySem.W.fnOf "_law_cut" "_law_cut" (defArgs slawcut) (defBody slawcut) (defScope slawcut) .none kV24 dc24 pm24 an24 cd24 ct24), sl24⟩) (q24 : PySem.W.codeIn K cd24 "_law_cut" = true) (k24 : PySem.W.keepIn K (.ref f24) = true)
    (a25 : PySem.W.nsIn K mainGlobals "_law_room" = some (some (.ref f25))) (l25 : K.lookup f25 = some ⟨oc25, od25, .func (PySem.W.fnOf "_law_room" "_law_room" (defArgs slawroom) (defBody slawroom) (defScope slawroom) .none kV25 dc25 pm25 an25 cd25 ct25), sl25⟩) (q25 : PySem.W.codeIn K cd25 "_law_room" = true) (k25 : PySem.W.keepIn K (.ref f25) = true)
    (a26 : PySem.W.nsIn K mainGlobals "_law_spread" = some (some (.ref f26))) (l26 : K.lookup f26 = some ⟨oc26, od26, .func (PySem.W.fnOf "_law_spread" "_law_spread" (defArgs slawspread) (defBody slawspread) (defScope slawspread) .none kV26 dc26 pm26 an26 cd26 ct26), sl26⟩) (q26 : PySem.W.codeIn K cd26 "_law_spread" = true) (k26 : PySem.W.keepIn K (.ref f26) = true)
    (a27 : PySem.W.nsIn K mainGlobals "_law_longer" = some (some (.ref f27))) (l27 : K.lookup f27 = some ⟨oc27, od27, .func (PySem.W.fnOf "_law_longer" "_law_longer" (defArgs slawlonger) (defBody slawlonger) (defScope slawlonger) .none kV27 dc27 pm27 an27 cd27 ct27), sl27⟩) (q27 : PySem.W.codeIn K cd27 "_law_longer" = true) (k27 : PySem.W.keepIn K (.ref f27) = true)
    (a28 : PySem.W.nsIn K mainGlobals "_law_doing" = some (some (.ref f28))) (l28 : K.lookup f28 = some ⟨oc28, od28, .func (PySem.W.fnOf "_law_doing" "_law_doing" (defArgs slawdoing) (defBody slawdoing) (defScope slawdoing) .none kV28 dc28 pm28 an28 cd28 ct28), sl28⟩) (q28 : PySem.W.codeIn K cd28 "_law_doing" = true) (k28 : PySem.W.keepIn K (.ref f28) = true)
    (a29 : PySem.W.nsIn K mainGlobals "_law_behind" = some (some (.ref f29))) (l29 : K.lookup f29 = some ⟨oc29, od29, .func (PySem.W.fnOf "_law_behind" "_law_behind" (defArgs slawbehind) (defBody slawbehind) (defScope slawbehind) .none kV29 dc29 pm29 an29 cd29 ct29), sl29⟩) (q29 : PySem.W.codeIn K cd29 "_law_behind" = true) (k29 : PySem.W.keepIn K (.ref f29) = true)
    (a30 : PySem.W.nsIn K mainGlobals "_law_viewed" = some (some (.ref f30))) (l30 : K.lookup f30 = some ⟨oc30, od30, .func (PySem.W.fnOf "_law_viewed" "_law_viewed" (defArgs slawviewed) (defBody slawviewed) (defScope slawviewed) .none kV30 dc30 pm30 an30 cd30 ct30), sl30⟩) (q30 : PySem.W.codeIn K cd30 "_law_viewed" = true) (k30 : PySem.W.keepIn K (.ref f30) = true)
    (a31 : PySem.W.nsIn K mainGlobals "_law_asked" = some (some (.ref f31))) (l31 : K.lookup f31 = some ⟨oc31, od31, .func (PySem.W.fnOf "_law_asked" "_law_asked" (defArgs slawasked) (defBody slawasked) (defScope slawasked) .none kV31 dc31 pm31 an31 cd31 ct31), sl31⟩) (q31 : PySem.W.codeIn K cd31 "_law_asked" = true) (k31 : PySem.W.keepIn K (.ref f31) = true)
    (a32 : PySem.W.nsIn K mainGlobals "_law_back" = some (some (.ref f32))) (l32 : K.lookup f32 = some ⟨oc32, od32, .func (PySem.W.fnOf "_law_back" "_law_back" (defArgs slawback) (defBody slawback) (defScope slawback) .none kV32 dc32 pm32 an32 cd32 ct32), sl32⟩) (q32 : PySem.W.codeIn K cd32 "_law_back" = true) (k32 : PySem.W.keepIn K (.ref f32) = true)
    (a33 : PySem.W.nsIn K mainGlobals "_law_drawn" = some (some (.ref f33))) (l33 : K.lookup f33 = some ⟨oc33, od33, .func (PySem.W.fnOf "_law_drawn" "_law_drawn" (defArgs slawdrawn) (defBody slawdrawn) (defScope slawdrawn) .none kV33 dc33 pm33 an33 cd33 ct33), sl33⟩) (q33 : PySem.W.codeIn K cd33 "_law_drawn" = true) (k33 : PySem.W.keepIn K (.ref f33) = true)
    (a34 : PySem.W.nsIn K mainGlobals "_law_leads" = some (some (.ref f34))) (l34 : K.lookup f34 = some ⟨oc34, od34, .func (PySem.W.fnOf "_law_leads" "_law_leads" (defArgs slawleads) (defBody slawleads) (defScope slawleads) .none kV34 dc34 pm34 an34 cd34 ct34), sl34⟩) (q34 : PySem.W.codeIn K cd34 "_law_leads" = true) (k34 : PySem.W.keepIn K (.ref f34) = true)
    (a35 : PySem.W.nsIn K mainGlobals "law" = some (some (.ref f35))) (l35 : K.lookup f35 = some ⟨oc35, od35, .func (PySem.W.fnOf "law" "law" (defArgs slaw) (defBody slaw) (defScope slaw) .none kV35 dc35 pm35 an35 cd35 ct35), sl35⟩) (q35 : PySem.W.codeIn K cd35 "law" = true) (k35 : PySem.W.keepIn K (.ref f35) = true)
    (zlen : PySem.W.nsIn K mainGlobals "len" = some none)
    (ztuple : PySem.W.nsIn K mainGlobals "tuple" = some none)
    (zreversed : PySem.W.nsIn K mainGlobals "reversed" = some none)
    (zsorted : PySem.W.nsIn K mainGlobals "sorted" = some none)
    (zlist : PySem.W.nsIn K mainGlobals "list" = some none)
    (zrange : PySem.W.nsIn K mainGlobals "range" = some none)
    (zzip : PySem.W.nsIn K mainGlobals "zip" = some none)
    (zsum : PySem.W.nsIn K mainGlobals "sum" = some none)
    (zmin : PySem.W.nsIn K mainGlobals "min" = some none)
    (zmax : PySem.W.nsIn K mainGlobals "max" = some none)
    (zstr : PySem.W.nsIn K mainGlobals "str" = some none)
    (zisinstance : PySem.W.nsIn K mainGlobals "isinstance" = some none)
    (zint : PySem.W.nsIn K mainGlobals "int" = some none)
    (zbool : PySem.W.nsIn K mainGlobals "bool" = some none)
    {tMOST_SIDES : Tok} (gMOST_SIDES : PySem.W.nsIn K mainGlobals "MOST_SIDES" = some (some (.int 6 tMOST_SIDES)))
    {tMOST_BREADTH : Tok} (gMOST_BREADTH : PySem.W.nsIn K mainGlobals "MOST_BREADTH" = some (some (.int 512 tMOST_BREADTH)))
    {CTooLarge : Addr} (nTooLarge : PySem.W.nsIn K mainGlobals "TooLarge" = some (some (.ref CTooLarge)))
    {CNoSide : Addr} (nNoSide : PySem.W.nsIn K mainGlobals "NoSide" = some (some (.ref CNoSide)))
    {CBeyond : Addr} (nBeyond : PySem.W.nsIn K mainGlobals "Beyond" = some (some (.ref CBeyond)))
    {CUnlike : Addr} (nUnlike : PySem.W.nsIn K mainGlobals "Unlike" = some (some (.ref CUnlike)))
    {CNoPlace : Addr} (nNoPlace : PySem.W.nsIn K mainGlobals "NoPlace" = some (some (.ref CNoPlace)))
    (xTooLarge : PySem.W.excIn K CTooLarge [.type "ValueError", .type "Exception", .type "BaseException", .type "object"] "ValueError.__new__" = true)
    (xUnlike : PySem.W.excIn K CUnlike [.type "ValueError", .type "Exception", .type "BaseException", .type "object"] "ValueError.__new__" = true)
    (xNoSide : PySem.W.excIn K CNoSide [.type "ValueError", .type "Exception", .type "BaseException", .type "object"] "ValueError.__new__" = true)
    (xBeyond : PySem.W.excIn K CBeyond [.type "ValueError", .type "Exception", .type "BaseException", .type "object"] "ValueError.__new__" = true)
    (kcS : (PySem.W.clsIn K CNoSide).isSome = true)
    (kgaS : PySem.W.findIn K (.ref CNoSide) "__getattribute__" = some (some (.builtin "BaseException.__getattribute__")))
    (kgtS : PySem.W.findIn K (.ref CNoSide) "__getattr__" = some none)
    (kclS : PySem.W.findIn K (.ref CNoSide) "__class__" = some (some (.builtin "object.__class__")))
    (kmoS : PySem.W.mroIn K CNoSide (.type "object") = some true)
    (kmbS : PySem.W.mroIn K CNoSide (.type "BaseException") = some true)
    (aS : PySem.W.kitAny K (.ref CNoSide) ([CUnlike, CBeyond, CTooLarge, CNoPlace].map Value.ref) = some false)
    (kcB : (PySem.W.clsIn K CBeyond).isSome = true)
    (kgaB : PySem.W.findIn K (.ref CBeyond) "__getattribute__" = some (some (.builtin "BaseException.__getattribute__")))
    (kgtB : PySem.W.findIn K (.ref CBeyond) "__getattr__" = some none)
    (kclB : PySem.W.findIn K (.ref CBeyond) "__class__" = some (some (.builtin "object.__class__")))
    (kmoB : PySem.W.mroIn K CBeyond (.type "object") = some true)
    (kmbB : PySem.W.mroIn K CBeyond (.type "BaseException") = some true)
    (aB : PySem.W.kitAny K (.ref CBeyond) ([CUnlike, CNoSide, CTooLarge, CNoPlace].map Value.ref) = some false)
    (kcL : (PySem.W.clsIn K CTooLarge).isSome = true)
    (kgaL : PySem.W.findIn K (.ref CTooLarge) "__getattribute__" = some (some (.builtin "BaseException.__getattribute__")))
    (kgtL : PySem.W.findIn K (.ref CTooLarge) "__getattr__" = some none)
    (kclL : PySem.W.findIn K (.ref CTooLarge) "__class__" = some (some (.builtin "object.__class__")))
    (kmoL : PySem.W.mroIn K CTooLarge (.type "object") = some true)
    (kmbL : PySem.W.mroIn K CTooLarge (.type "BaseException") = some true)
    (aL : PySem.W.kitAny K (.ref CTooLarge) ([CUnlike, CNoSide, CBeyond, CNoPlace].map Value.ref) = some false)
    (kcU : (PySem.W.clsIn K CUnlike).isSome = true)
    (kgaU : PySem.W.findIn K (.ref CUnlike) "__getattribute__" = some (some (.builtin "BaseException.__getattribute__")))
    (kgtU : PySem.W.findIn K (.ref CUnlike) "__getattr__" = some none)
    (kclU : PySem.W.findIn K (.ref CUnlike) "__class__" = some (some (.builtin "object.__class__")))
    (kmoU : PySem.W.mroIn K CUnlike (.type "object") = some true)
    (kmbU : PySem.W.mroIn K CUnlike (.type "BaseException") = some true)
    (aU : PySem.W.kitAny K (.ref CUnlike) ([CTooLarge, CNoSide, CBeyond, CNoPlace].map Value.ref) = some false)
    (eSS : PySem.W.exmOne K (.ref CNoSide) (.ref CNoSide) = some true)
    (eBS : PySem.W.exmOne K (.ref CBeyond) (.ref CNoSide) = some false)
    (eBB : PySem.W.exmOne K (.ref CBeyond) (.ref CBeyond) = some true)
    (eLS : PySem.W.exmOne K (.ref CTooLarge) (.ref CNoSide) = some false)
    (eLB : PySem.W.exmOne K (.ref CTooLarge) (.ref CBeyond) = some false)
    (eLL : PySem.W.exmOne K (.ref CTooLarge) (.ref CTooLarge) = some true)
    (eUS : PySem.W.exmOne K (.ref CUnlike) (.ref CNoSide) = some false)
    (eUB : PySem.W.exmOne K (.ref CUnlike) (.ref CBeyond) = some false)
    (eUL : PySem.W.exmOne K (.ref CUnlike) (.ref CTooLarge) = some false)
    (eUU : PySem.W.exmOne K (.ref CUnlike) (.ref CUnlike) = some true)
    : ∃ fd : FuncData, (∀ (s : Shared) (v : Value), BindsTo s fd ⟨[v], []⟩ [("script", v)]) ∧ ∀ base : Heap, K.In base → base.Ns mainGlobals mg → FnOk l.prog w K mg base CX0 9 fa fd ["script"] (splaw K) := by
  have e := hfa.symm.trans (PySem.W.mg_of X G a35)
  cases e
  have F0 := fun_mk (st := samount) l0 q0 k0
  have b0 := F0.binds (ps := ["sides"]) fun _ _ _ _ _ _ us hl => by
    obtain ⟨_, rfl⟩ := us_len1 hl
    rfl
  have F1 := fun_mk (st := sbreadth) l1 q1 k1
  have b1 := F1.binds (ps := ["sides"]) fun _ _ _ _ _ _ us hl => by
    obtain ⟨_, rfl⟩ := us_len1 hl
    rfl
  have F2 := fun_mk (st := sallowed) l2 q2 k2
  have b2 := F2.binds (ps := ["sides"]) fun _ _ _ _ _ _ us hl => by
    obtain ⟨_, rfl⟩ := us_len1 hl
    rfl
  have F3 := fun_mk (st := sstridesof) l3 q3 k3
  have b3 := F3.binds (ps := ["sides"]) fun _ _ _ _ _ _ us hl => by
    obtain ⟨_, rfl⟩ := us_len1 hl
    rfl
  have F4 := fun_mk (st := schangedat) l4 q4 k4
  have b4 := F4.binds (ps := ["row", "k", "number"]) fun _ _ _ _ _ _ us hl => by
    obtain ⟨_, _, _, rfl⟩ := us_len3 hl
    rfl
  have F5 := fun_mk (st := saddedat) l5 q5 k5
  have b5 := F5.binds (ps := ["row", "k", "number"]) fun _ _ _ _ _ _ us hl => by
    obtain ⟨_, _, _, rfl⟩ := us_len3 hl
    rfl
  have F6 := fun_mk (st := sdroppedat) l6 q6 k6
  have b6 := F6.binds (ps := ["row", "k"]) fun _ _ _ _ _ _ us hl => by
    obtain ⟨_, _, rfl⟩ := us_len2 hl
    rfl
  have F7 := fun_mk (st := saskside) l7 q7 k7
  have b7 := F7.binds (ps := ["sides", "side"]) fun _ _ _ _ _ _ us hl => by
    obtain ⟨_, _, rfl⟩ := us_len2 hl
    rfl
  have F8 := fun_mk (st := sturnedsides) l8 q8 k8
  have b8 := F8.binds (ps := ["sides", "order"]) fun _ _ _ _ _ _ us hl => by
    obtain ⟨_, _, rfl⟩ := us_len2 hl
    rfl
  have F9 := fun_mk (st := sflippedsides) l9 q9 k9
  have b9 := F9.binds (ps := ["sides", "side"]) fun _ _ _ _ _ _ us hl => by
    obtain ⟨_, _, rfl⟩ := us_len2 hl
    rfl
  have F10 := fun_mk (st := scutsides) l10 q10 k10
  have b10 := F10.binds (ps := ["sides", "side", "first", "many", "step"]) fun _ _ _ _ _ _ us hl => by
    obtain ⟨_, _, _, _, _, rfl⟩ := us_len5 hl
    rfl
  have F11 := fun_mk (st := sspreadsides) l11 q11 k11
  have b11 := F11.binds (ps := ["sides", "side", "many"]) fun _ _ _ _ _ _ us hl => by
    obtain ⟨_, _, _, rfl⟩ := us_len3 hl
    rfl
  have F12 := fun_mk (st := sledsides) l12 q12 k12
  have b12 := F12.binds (ps := ["sides", "others"]) fun _ _ _ _ _ _ us hl => by
    obtain ⟨_, _, rfl⟩ := us_len2 hl
    rfl
  have F13 := fun_mk (st := sfoldedsides) l13 q13 k13
  have b13 := F13.binds (ps := ["sides", "side"]) fun _ _ _ _ _ _ us hl => by
    obtain ⟨_, _, rfl⟩ := us_len2 hl
    rfl
  have F14 := fun_mk (st := splainview) l14 q14 k14
  have b14 := F14.binds (ps := ["sides"]) fun _ _ _ _ _ _ us hl => by
    obtain ⟨_, rfl⟩ := us_len1 hl
    rfl
  have F15 := fun_mk (st := sturnedview) l15 q15 k15
  have b15 := F15.binds (ps := ["view", "order"]) fun _ _ _ _ _ _ us hl => by
    obtain ⟨_, _, rfl⟩ := us_len2 hl
    rfl
  have F16 := fun_mk (st := sflippedview) l16 q16 k16
  have b16 := F16.binds (ps := ["view", "side"]) fun _ _ _ _ _ _ us hl => by
    obtain ⟨_, _, rfl⟩ := us_len2 hl
    rfl
  have F17 := fun_mk (st := scutview) l17 q17 k17
  have b17 := F17.binds (ps := ["view", "side", "first", "many", "step"]) fun _ _ _ _ _ _ us hl => by
    obtain ⟨_, _, _, _, _, rfl⟩ := us_len5 hl
    rfl
  have F18 := fun_mk (st := sspreadview) l18 q18 k18
  have b18 := F18.binds (ps := ["view", "side", "many"]) fun _ _ _ _ _ _ us hl => by
    obtain ⟨_, _, _, rfl⟩ := us_len3 hl
    rfl
  have F19 := fun_mk (st := sledview) l19 q19 k19
  have b19 := F19.binds (ps := ["view", "sides"]) fun _ _ _ _ _ _ us hl => by
    obtain ⟨_, _, rfl⟩ := us_len2 hl
    rfl
  have F20 := fun_mk (st := sinnerview) l20 q20 k20
  have b20 := F20.binds (ps := ["view", "side"]) fun _ _ _ _ _ _ us hl => by
    obtain ⟨_, _, rfl⟩ := us_len2 hl
    rfl
  have F21 := fun_mk (st := sspotof) l21 q21 k21
  have b21 := F21.binds (ps := ["view", "at"]) fun _ _ _ _ _ _ us hl => by
    obtain ⟨_, _, rfl⟩ := us_len2 hl
    rfl
  have F22 := fun_mk (st := slawsides) l22 q22 k22
  have b22 := F22.binds (ps := ["row", "room"]) fun _ _ _ _ _ _ us hl => by
    obtain ⟨_, _, rfl⟩ := us_len2 hl
    rfl
  have F23 := fun_mk (st := slaworder) l23 q23 k23
  have b23 := F23.binds (ps := ["n", "count"]) fun _ _ _ _ _ _ us hl => by
    obtain ⟨_, _, rfl⟩ := us_len2 hl
    rfl
  have F24 := fun_mk (st := slawcut) l24 q24 k24
  have b24 := F24.binds (ps := ["sides", "side", "n"]) fun _ _ _ _ _ _ us hl => by
    obtain ⟨_, _, _, rfl⟩ := us_len3 hl
    rfl
  have F25 := fun_mk (st := slawroom) l25 q25 k25
  have b25 := F25.binds (ps := ["sides"]) fun _ _ _ _ _ _ us hl => by
    obtain ⟨_, rfl⟩ := us_len1 hl
    rfl
  have F26 := fun_mk (st := slawspread) l26 q26 k26
  have b26 := F26.binds (ps := ["sides", "side", "n"]) fun _ _ _ _ _ _ us hl => by
    obtain ⟨_, _, _, rfl⟩ := us_len3 hl
    rfl
  have F27 := fun_mk (st := slawlonger) l27 q27 k27
  have b27 := F27.binds (ps := ["sides", "n"]) fun _ _ _ _ _ _ us hl => by
    obtain ⟨_, _, rfl⟩ := us_len2 hl
    rfl
  have F28 := fun_mk (st := slawdoing) l28 q28 k28
  have b28 := F28.binds (ps := ["sides", "one", "kinds"]) fun _ _ _ _ _ _ us hl => by
    obtain ⟨_, _, _, rfl⟩ := us_len3 hl
    rfl
  have F29 := fun_mk (st := slawbehind) l29 q29 k29
  have b29 := F29.binds (ps := ["sides", "doing"]) fun _ _ _ _ _ _ us hl => by
    obtain ⟨_, _, rfl⟩ := us_len2 hl
    rfl
  have F30 := fun_mk (st := slawviewed) l30 q30 k30
  have b30 := F30.binds (ps := ["view", "doing"]) fun _ _ _ _ _ _ us hl => by
    obtain ⟨_, _, rfl⟩ := us_len2 hl
    rfl
  have F31 := fun_mk (st := slawasked) l31 q31 k31
  have b31 := F31.binds (ps := ["view", "doing"]) fun _ _ _ _ _ _ us hl => by
    obtain ⟨_, _, rfl⟩ := us_len2 hl
    rfl
  have F32 := fun_mk (st := slawback) l32 q32 k32
  have b32 := F32.binds (ps := ["doing", "sides", "behind", "at"]) fun _ _ _ _ _ _ us hl => by
    obtain ⟨_, _, _, _, rfl⟩ := us_len4 hl
    rfl
  have F33 := fun_mk (st := slawdrawn) l33 q33 k33
  have b33 := F33.binds (ps := ["lengths", "left"]) fun _ _ _ _ _ _ us hl => by
    obtain ⟨_, _, rfl⟩ := us_len2 hl
    rfl
  have F34 := fun_mk (st := slawleads) l34 q34 k34
  have b34 := F34.binds (ps := ["sides", "view", "done", "lengths", "left"]) fun _ _ _ _ _ _ us hl => by
    obtain ⟨_, _, _, _, _, rfl⟩ := us_len5 hl
    rfl
  have F35 := fun_mk (st := slaw) l35 q35 k35
  have b35 := F35.binds (ps := ["script"]) fun _ _ _ _ _ _ us hl => by
    obtain ⟨_, rfl⟩ := us_len1 hl
    rfl
  refine ⟨PySem.W.fnOf "law" "law" (defArgs slaw) (defBody slaw) (defScope slaw) .none kV35 dc35 pm35 an35 cd35 ct35, fun s v => .of_eq rfl, fun base KB GB => ?_⟩
  have O_amount := okamount (P := l.prog) (w := w) (base := base) (mg := mg) F0
  have C_amount := Callee.mk' F0 (PySem.W.mg_of X G a0) b0 O_amount
  have O_breadth := okbreadth (P := l.prog) (w := w) (base := base) (mg := mg) F1 (C_amount.mono (by decide))
  have C_breadth := Callee.mk' F1 (PySem.W.mg_of X G a1) b1 O_breadth
  have O_allowed := okallowed (P := l.prog) (w := w) (base := base) (mg := mg) F2 nTooLarge (C_breadth.mono (by decide)) (PySem.W.mg_none_of X G zlen) (PySem.W.mg_of X G gMOST_SIDES) (PySem.W.mg_of X G gMOST_BREADTH) xTooLarge
  have C_allowed := Callee.mk' F2 (PySem.W.mg_of X G a2) b2 O_allowed
  have O_stridesof := okstridesof (P := l.prog) (w := w) (base := base) (mg := mg) F3 (PySem.W.mg_none_of X G ztuple) (PySem.W.mg_none_of X G zreversed)
  have C_stridesof := Callee.mk' F3 (PySem.W.mg_of X G a3) b3 O_stridesof
  have O_changedat := okchangedat (P := l.prog) (w := w) (base := base) (mg := mg) F4
  have C_changedat := Callee.mk' F4 (PySem.W.mg_of X G a4) b4 O_changedat
  have O_addedat := okaddedat (P := l.prog) (w := w) (base := base) (mg := mg) F5
  have C_addedat := Callee.mk' F5 (PySem.W.mg_of X G a5) b5 O_addedat
  have O_droppedat := okdroppedat (P := l.prog) (w := w) (base := base) (mg := mg) F6
  have C_droppedat := Callee.mk' F6 (PySem.W.mg_of X G a6) b6 O_droppedat
  have O_askside := okaskside (P := l.prog) (w := w) (base := base) (mg := mg) F7 nNoSide (PySem.W.mg_none_of X G zlen) xNoSide
  have C_askside := Callee.mk' F7 (PySem.W.mg_of X G a7) b7 O_askside
  have O_turnedsides := okturnedsides (P := l.prog) (w := w) (base := base) (mg := mg) F8 nNoSide (PySem.W.mg_none_of X G zsorted) (PySem.W.mg_none_of X G zlist) (PySem.W.mg_none_of X G zrange) (PySem.W.mg_none_of X G zlen) (PySem.W.mg_none_of X G ztuple) xNoSide
  have C_turnedsides := Callee.mk' F8 (PySem.W.mg_of X G a8) b8 O_turnedsides
  have O_flippedsides := okflippedsides (P := l.prog) (w := w) (base := base) (mg := mg) F9 nNoSide (C_askside.mono (by decide))
  have C_flippedsides := Callee.mk' F9 (PySem.W.mg_of X G a9) b9 O_flippedsides
  have O_cutsides := okcutsides (P := l.prog) (w := w) (base := base) (mg := mg) F10 nNoSide nBeyond (C_askside.mono (by decide)) (C_changedat.mono (by decide)) xBeyond
  have C_cutsides := Callee.mk' F10 (PySem.W.mg_of X G a10) b10 O_cutsides
  have O_spreadsides := okspreadsides (P := l.prog) (w := w) (base := base) (mg := mg) F11 nNoSide nBeyond nTooLarge (C_addedat.mono (by decide)) (C_allowed.mono (by decide)) (PySem.W.mg_none_of X G zlen) xNoSide xBeyond
  have C_spreadsides := Callee.mk' F11 (PySem.W.mg_of X G a11) b11 O_spreadsides
  have O_ledsides := okledsides (P := l.prog) (w := w) (base := base) (mg := mg) F12 nUnlike (PySem.W.mg_none_of X G zlen) xUnlike
  have C_ledsides := Callee.mk' F12 (PySem.W.mg_of X G a12) b12 O_ledsides
  have O_foldedsides := okfoldedsides (P := l.prog) (w := w) (base := base) (mg := mg) F13 nNoSide (C_askside.mono (by decide)) (C_droppedat.mono (by decide))
  have C_foldedsides := Callee.mk' F13 (PySem.W.mg_of X G a13) b13 O_foldedsides
  have O_plainview := okplainview (P := l.prog) (w := w) (base := base) (mg := mg) F14 (C_stridesof.mono (by decide))
  have C_plainview := Callee.mk' F14 (PySem.W.mg_of X G a14) b14 O_plainview
  have O_turnedview := okturnedview (P := l.prog) (w := w) (base := base) (mg := mg) F15 nNoSide (C_turnedsides.mono (by decide)) (PySem.W.mg_none_of X G ztuple) (PySem.W.mg_none_of X G zlen)
  have C_turnedview := Callee.mk' F15 (PySem.W.mg_of X G a15) b15 O_turnedview
  have O_flippedview := okflippedview (P := l.prog) (w := w) (base := base) (mg := mg) F16 nNoSide (C_flippedsides.mono (by decide)) (C_changedat.mono (by decide))
  have C_flippedview := Callee.mk' F16 (PySem.W.mg_of X G a16) b16 O_flippedview
  have O_cutview := okcutview (P := l.prog) (w := w) (base := base) (mg := mg) F17 nNoSide nBeyond (C_cutsides.mono (by decide)) (C_changedat.mono (by decide))
  have C_cutview := Callee.mk' F17 (PySem.W.mg_of X G a17) b17 O_cutview
  have O_spreadview := okspreadview (P := l.prog) (w := w) (base := base) (mg := mg) F18 nNoSide nBeyond nTooLarge (C_spreadsides.mono (by decide)) (C_addedat.mono (by decide))
  have C_spreadview := Callee.mk' F18 (PySem.W.mg_of X G a18) b18 O_spreadview
  have O_ledview := okledview (P := l.prog) (w := w) (base := base) (mg := mg) F19 nUnlike (C_ledsides.mono (by decide)) (PySem.W.mg_none_of X G zlen)
  have C_ledview := Callee.mk' F19 (PySem.W.mg_of X G a19) b19 O_ledview
  have O_innerview := okinnerview (P := l.prog) (w := w) (base := base) (mg := mg) F20 nNoSide (C_foldedsides.mono (by decide)) (C_addedat.mono (by decide)) (C_droppedat.mono (by decide)) (PySem.W.mg_none_of X G zlen)
  have C_innerview := Callee.mk' F20 (PySem.W.mg_of X G a20) b20 O_innerview
  have O_spotof := okspotof (P := l.prog) (w := w) (base := base) (mg := mg) F21 (PySem.W.mg_none_of X G zlen) (PySem.W.mg_none_of X G zzip) (PySem.W.mg_none_of X G zsum)
  have C_spotof := Callee.mk' F21 (PySem.W.mg_of X G a21) b21 O_spotof
  have O_lawsides := oklawsides (P := l.prog) (w := w) (base := base) (mg := mg) F22 (PySem.W.mg_none_of X G zmin) (PySem.W.mg_none_of X G zmax)
  have C_lawsides := Callee.mk' F22 (PySem.W.mg_of X G a22) b22 O_lawsides
  have O_laworder := oklaworder (P := l.prog) (w := w) (base := base) (mg := mg) F23 (PySem.W.mg_none_of X G zlist) (PySem.W.mg_none_of X G zrange) (PySem.W.mg_none_of X G zlen) (PySem.W.mg_none_of X G ztuple)
  have C_laworder := Callee.mk' F23 (PySem.W.mg_of X G a23) b23 O_laworder
  have O_lawcut := oklawcut (P := l.prog) (w := w) (base := base) (mg := mg) F24 (PySem.W.mg_none_of X G zlen) (PySem.W.mg_none_of X G zmax) (PySem.W.mg_none_of X G zmin)
  have C_lawcut := Callee.mk' F24 (PySem.W.mg_of X G a24) b24 O_lawcut
  have O_lawroom := oklawroom (P := l.prog) (w := w) (base := base) (mg := mg) F25 (PySem.W.mg_none_of X G zmax)
  have C_lawroom := Callee.mk' F25 (PySem.W.mg_of X G a25) b25 O_lawroom
  have O_lawspread := oklawspread (P := l.prog) (w := w) (base := base) (mg := mg) F26 (C_lawroom.mono (by decide)) (PySem.W.mg_none_of X G zmin)
  have C_lawspread := Callee.mk' F26 (PySem.W.mg_of X G a26) b26 O_lawspread
  have O_lawlonger := oklawlonger (P := l.prog) (w := w) (base := base) (mg := mg) F27 (C_lawroom.mono (by decide)) (PySem.W.mg_none_of X G zrange) (PySem.W.mg_none_of X G zlen) (PySem.W.mg_none_of X G zmin)
  have C_lawlonger := Callee.mk' F27 (PySem.W.mg_of X G a27) b27 O_lawlonger
  have O_lawdoing := oklawdoing (P := l.prog) (w := w) (base := base) (mg := mg) F28 (C_laworder.mono (by decide)) (C_lawcut.mono (by decide)) (C_lawspread.mono (by decide)) (C_lawlonger.mono (by decide)) (PySem.W.mg_none_of X G zlen)
  have C_lawdoing := Callee.mk' F28 (PySem.W.mg_of X G a28) b28 O_lawdoing
  have O_lawbehind := oklawbehind (P := l.prog) (w := w) (base := base) (mg := mg) F29 (C_lawroom.mono (by decide)) (PySem.W.mg_none_of X G zsorted) (PySem.W.mg_none_of X G zlist) (PySem.W.mg_none_of X G zrange) (PySem.W.mg_none_of X G zlen) (PySem.W.mg_none_of X G ztuple)
  have C_lawbehind := Callee.mk' F29 (PySem.W.mg_of X G a29) b29 O_lawbehind
  have O_lawviewed := oklawviewed (P := l.prog) (w := w) (base := base) (mg := mg) F30 nNoSide nBeyond nTooLarge nUnlike (C_turnedview.mono (by decide)) (C_ledview.mono (by decide)) (C_spreadview.mono (by decide)) (C_cutview.mono (by decide)) (C_flippedview.mono (by decide)) (C_innerview.mono (by decide))
  have C_lawviewed := Callee.mk' F30 (PySem.W.mg_of X G a30) b30 O_lawviewed
  have O_lawasked := oklawasked (P := l.prog) (w := w) (base := base) (mg := mg) F31 nNoSide nBeyond nTooLarge nUnlike nNoPlace (C_lawviewed.mono (by decide)) (PySem.W.mg_none_of X G zstr) (PySem.W.mg_none_of X G zisinstance) ⟨kcS, kgaS, kgtS, kclS, kmoS, kmbS⟩ aS ⟨kcB, kgaB, kgtB, kclB, kmoB, kmbB⟩ aB ⟨kcL, kgaL, kgtL, kclL, kmoL, kmbL⟩ aL ⟨kcU, kgaU, kgtU, kclU, kmoU, kmbU⟩ aU eSS eBS eBB eLS eLB eLL eUS eUB eUL eUU
  have C_lawasked := Callee.mk' F31 (PySem.W.mg_of X G a31) b31 O_lawasked
  have O_lawback := oklawback (P := l.prog) (w := w) (base := base) (mg := mg) F32 (PySem.W.mg_none_of X G zlen) (PySem.W.mg_none_of X G zzip) (PySem.W.mg_none_of X G ztuple)
  have C_lawback := Callee.mk' F32 (PySem.W.mg_of X G a32) b32 O_lawback
  have O_lawdrawn := oklawdrawn (P := l.prog) (w := w) (base := base) (mg := mg) F33
  have C_lawdrawn := Callee.mk' F33 (PySem.W.mg_of X G a33) b33 O_lawdrawn
  have O_lawleads := oklawleads (P := l.prog) (w := w) (base := base) (mg := mg) F34 (C_lawdrawn.mono (by decide)) (C_spotof.mono (by decide)) (C_lawback.mono (by decide)) (PySem.W.mg_none_of X G zreversed) (PySem.W.mg_none_of X G zzip) (PySem.W.mg_none_of X G zisinstance) (PySem.W.mg_none_of X G zint) (PySem.W.mg_none_of X G zbool)
  have C_lawleads := Callee.mk' F34 (PySem.W.mg_of X G a34) b34 O_lawleads
  have O_law := oklaw (P := l.prog) (w := w) (base := base) (mg := mg) F35 (C_lawsides.mono (by decide)) (C_plainview.mono (by decide)) (C_lawdoing.mono (by decide)) (C_lawbehind.mono (by decide)) (C_lawasked.mono (by decide)) (C_lawleads.mono (by decide)) (PySem.W.mg_none_of X G ztuple) (PySem.W.mg_none_of X G zmax) (PySem.W.mg_none_of X G zlen) (PySem.W.mg_none_of X G zisinstance) (PySem.W.mg_none_of X G zrange) (PySem.W.mg_none_of X G zsum)
  exact O_law
theorem walk {l : PySem.W.OpenLaw} {q : Program} {loose : List Str} {XP : (Str → Option Value) → Heap → Prop} {YP : World → Heap → Prop} {d : DefRec} {K : Params → PySem.W.Frag} (hn : l.most = some 63) (hdf : d.params.defaults = [])
    (hY : ∀ (w : World) (h : Heap), YP w h → (K w.params).In h)
    (F : ∀ (w : World) (mg : Str → Option Value) (fa : Addr) (h : Heap), (K w.params).In h → h.Ns mainGlobals mg → mg d.name = some (.ref fa) →
      ∃ fd : FuncData, (∀ (s : Shared) (u : Value), BindsTo s fd ⟨[u], []⟩ [("script", u)]) ∧ ∀ base : Heap, (K w.params).In base → base.Ns mainGlobals mg → FnOk l.prog w (K w.params) mg base (CX0) 9 fa fd ["script"] (splaw (K w.params))) :
    PySem.W.WalkO q loose XP YP l.row.toRowW d [] (fun f vs => PySem.call f vs) :=
  L2.walk_of (n := 63) (k := 9) (x := "script") (CX := fun _ => CX0) (sp := fun w => splaw (K w.params)) hn (by decide) hdf ⟨rfl, by decide, by decide⟩ hY F (fun _ _ a ns hl hfew hS => ⟨a, ns, rfl, hS, hl, fun _ => rfl⟩) fun _ _ _ _ _ z => z
end My
open PySem PySem.W PyProof.Rows
set_option maxRecDepth 100000 in
set_option maxHeartbeats 0 in
theorem PySem.Challenge.cw_sideloom_k23_whole_chains_of_views_holds : PySem.Challenge.rw_sideloom_k23_whole_chains_of_views.Holds := by
  w_on; o_law; k_head; (case hw => w_witness2)
  k_fill
  refine My.walk (l := PySem.Challenge.rw_sideloom_k23_whole_chains_of_views) rfl rfl (fun w h Y => PySem.W.kIn_of Y) ?F
  case F =>
    intro w mg fa h KX G hmg
    refine' My.all_mk KX G hmg ?a0 ?l0 ?q0 ?k0 ?a1 ?l1 ?q1 ?k1 ?a2 ?l2 ?q2 ?k2 ?a3 ?l3 ?q3 ?k3 ?a4 ?l4 ?q4 ?k4 ?a5 ?l5 ?q5 ?k5 ?a6 ?l6 ?q6 ?k6 ?a7 ?l7 ?q7 ?k7 ?a8 ?l8 ?q8 ?k8 ?a9 ?l9 ?q9 ?k9 ?a10 ?l10 ?q10 ?k10 ?a11 ?l11 ?q11 ?k11 ?a12 ?l12 ?q12 ?k12 ?a13 ?l13 ?q13 ?k13 ?a14 ?l14 ?q14 ?k14 ?a15 ?l15 ?q15 ?k15 ?a16 ?l16 ?q16 ?k16 ?a17 ?l17 ?q17 ?k17 ?a18 ?l18 ?q18 ?k18 ?a19 ?l19 ?q19 ?k19 ?a20 ?l20 ?q20 ?k20 ?a21 ?l21 ?q21 ?k21 ?a22 ?l22 ?q22 ?k22 ?a23 ?l23 ?q23 ?k23 ?a24 ?l24 ?q24 ?k24 ?a25 ?l25 ?q25 ?k25 ?a26 ?l26 ?q26 ?k26 ?a27 ?l27 ?q27 ?k27 ?a28 ?l28 ?q28 ?k28 ?a29 ?l29 ?q29 ?k29 ?a30 ?l30 ?q30 ?k30 ?a31 ?l31 ?q31 ?k31 ?a32 ?l32 ?q32 ?k32 ?a33 ?l33 ?q33 ?k33 ?a34 ?l34 ?q34 ?k34 ?a35 ?l35 ?q35 ?k35 ?zlen ?ztuple ?zreversed ?zsorted ?zlist ?zrange ?zzip ?zsum ?zmin ?zmax ?zstr ?zisinstance ?zint ?zbool ?gMOST_SIDES ?gMOST_BREADTH ?nTooLarge ?nNoSide ?nBeyond ?nUnlike ?nNoPlace ?xTooLarge ?xUnlike ?xNoSide ?xBeyond ?kcS ?kgaS ?kgtS ?kclS ?kmoS ?kmbS ?aS ?kcB ?kgaB ?kgtB ?kclB ?kmoB ?kmbB ?aB ?kcL ?kgaL ?kgtL ?kclL ?kmoL ?kmbL ?aL ?kcU ?kgaU ?kgtU ?kclU ?kmoU ?kmbU ?aU ?eSS ?eBS ?eBB ?eLS ?eLB ?eLL ?eUS ?eUB ?eUL ?eUU
    (case a0 => k_is)
    (case l0 => k_is)
    (case q0 => k_is)
    (case k0 => k_is)
    (case a1 => k_is)
    (case l1 => k_is)
    (case q1 => k_is)
    (case k1 => k_is)
    (case a2 => k_is)
    (case l2 => k_is)
    (case q2 => k_is)
    (case k2 => k_is)
    (case a3 => k_is)
    (case l3 => k_is)
    (case q3 => k_is)
    (case k3 => k_is)
    (case a4 => k_is)
    (case l4 => k_is)
    (case q4 => k_is)
    (case k4 => k_is)
    (case a5 => k_is)
    (case l5 => k_is)
    (case q5 => k_is)
    (case k5 => k_is)
    (case a6 => k_is)
    (case l6 => k_is)
    (case q6 => k_is)
    (case k6 => k_is)
    (case a7 => k_is)
    (case l7 => k_is)
    (case q7 => k_is)
    (case k7 => k_is)
    (case a8 => k_is)
    (case l8 => k_is)
    (case q8 => k_is)
    (case k8 => k_is)
    (case a9 => k_is)
    (case l9 => k_is)
    (case q9 => k_is)
    (case k9 => k_is)
    (case a10 => k_is)
    (case l10 => k_is)
    (case q10 => k_is)
    (case k10 => k_is)
    (case a11 => k_is)
    (case l11 => k_is)
    (case q11 => k_is)
    (case k11 => k_is)
    (case a12 => k_is)
    (case l12 => k_is)
    (case q12 => k_is)
    (case k12 => k_is)
    (case a13 => k_is)
    (case l13 => k_is)
    (case q13 => k_is)
    (case k13 => k_is)
    (case a14 => k_is)
    (case l14 => k_is)
    (case q14 => k_is)
    (case k14 => k_is)
    (case a15 => k_is)
    (case l15 => k_is)
    (case q15 => k_is)
    (case k15 => k_is)
    (case a16 => k_is)
    (case l16 => k_is)
    (case q16 => k_is)
    (case k16 => k_is)
    (case a17 => k_is)
    (case l17 => k_is)
    (case q17 => k_is)
    (case k17 => k_is)
    (case a18 => k_is)
    (case l18 => k_is)
    (case q18 => k_is)
    (case k18 => k_is)
    (case a19 => k_is)
    (case l19 => k_is)
    (case q19 => k_is)
    (case k19 => k_is)
    (case a20 => k_is)
    (case l20 => k_is)
    (case q20 => k_is)
    (case k20 => k_is)
    (case a21 => k_is)
    (case l21 => k_is)
    (case q21 => k_is)
    (case k21 => k_is)
    (case a22 => k_is)
    (case l22 => k_is)
    (case q22 => k_is)
    (case k22 => k_is)
    (case a23 => k_is)
    (case l23 => k_is)
    (case q23 => k_is)
    (case k23 => k_is)
    (case a24 => k_is)
    (case l24 => k_is)
    (case q24 => k_is)
    (case k24 => k_is)
    (case a25 => k_is)
    (case l25 => k_is)
    (case q25 => k_is)
    (case k25 => k_is)
    (case a26 => k_is)
    (case l26 => k_is)
    (case q26 => k_is)
    (case k26 => k_is)
    (case a27 => k_is)
    (case l27 => k_is)
    (case q27 => k_is)
    (case k27 => k_is)
    (case a28 => k_is)
    (case l28 => k_is)
    (case q28 => k_is)
    (case k28 => k_is)
    (case a29 => k_is)
    (case l29 => k_is)
    (case q29 => k_is)
    (case k29 => k_is)
    (case a30 => k_is)
    (case l30 => k_is)
    (case q30 => k_is)
    (case k30 => k_is)
    (case a31 => k_is)
    (case l31 => k_is)
    (case q31 => k_is)
    (case k31 => k_is)
    (case a32 => k_is)
    (case l32 => k_is)
    (case q32 => k_is)
    (case k32 => k_is)
    (case a33 => k_is)
    (case l33 => k_is)
    (case q33 => k_is)
    (case k33 => k_is)
    (case a34 => k_is)
    (case l34 => k_is)
    (case q34 => k_is)
    (case k34 => k_is)
    (case a35 => k_is)
    (case l35 => k_is)
    (case q35 => k_is)
    (case k35 => k_is)
    (case zlen => k_is)
    (case ztuple => k_is)
    (case zreversed => k_is)
    (case zsorted => k_is)
    (case zlist => k_is)
    (case zrange => k_is)
    (case zzip => k_is)
    (case zsum => k_is)
    (case zmin => k_is)
    (case zmax => k_is)
    (case zstr => k_is)
    (case zisinstance => k_is)
    (case zint => k_is)
    (case zbool => k_is)
    (case gMOST_SIDES => k_is)
    (case gMOST_BREADTH => k_is)
    (case nTooLarge => k_is)
    (case nNoSide => k_is)
    (case nBeyond => k_is)
    (case nUnlike => k_is)
    (case nNoPlace => k_is)
    (case xTooLarge => k_exc)
    (case xUnlike => k_exc)
    (case xNoSide => k_exc)
    (case xBeyond => k_exc)
    (case kcS => exact Option.isSome_iff_exists.mpr ⟨_, by k_is⟩)
    (case kgaS => k_is)
    (case kgtS => k_is)
    (case kclS => k_is)
    (case kmoS => k_is)
    (case kmbS => k_is)
    (case aS => kit_is)
    (case kcB => exact Option.isSome_iff_exists.mpr ⟨_, by k_is⟩)
    (case kgaB => k_is)
    (case kgtB => k_is)
    (case kclB => k_is)
    (case kmoB => k_is)
    (case kmbB => k_is)
    (case aB => kit_is)
    (case kcL => exact Option.isSome_iff_exists.mpr ⟨_, by k_is⟩)
    (case kgaL => k_is)
    (case kgtL => k_is)
    (case kclL => k_is)
    (case kmoL => k_is)
    (case kmbL => k_is)
    (case aL => kit_is)
    (case kcU => exact Option.isSome_iff_exists.mpr ⟨_, by k_is⟩)
    (case kgaU => k_is)
    (case kgtU => k_is)
    (case kclU => k_is)
    (case kmoU => k_is)
    (case kmbU => k_is)
    (case aU => kit_is)
    (case eSS => kts_exm)
    (case eBS => kts_exm)
    (case eBB => kts_exm)
    (case eLS => kts_exm)
    (case eLB => kts_exm)
    (case eLL => kts_exm)
    (case eUS => kts_exm)
    (case eUB => kts_exm)
    (case eUL => kts_exm)
    (case eUU => kts_exm)
