import PyProof.Rows.All
import Wide.All
import OpenK.AllK
import Wide.FinOn
import Lean
import PyProof.EqAt
import PyProof.EqKinds
import PyProof.TupleCall
import PySem.Challenge.RW_sideloom_k09_whole_tables
set_option Elab.async false
set_option linter.all false
set_option maxRecDepth 100000
namespace L2
open PySem PySem.Spec PyProof.Rows
abbrev Key := Sum Int Str
def keyIs : Key → Value → Bool
  | .inl k, v => Value.isInt k v
  | .inr x, v => Value.isStrOf x v
def keyH (w : World) : Key → Int
  | .inl k => hashInt k
  | .inr x => hashStr w x
theorem keyIs_shape : ∀ {k : Key} {v : Value}, keyIs k v = true → (∃ i t, k = Sum.inl i ∧ v = Value.int i t) ∨ (∃ x t, k = Sum.inr x ∧ v = Value.str x t)
  | .inl i, v, h => by
    obtain ⟨t, e⟩ := Value.isInt_shape (k := i) (v := v) h
    exact .inl ⟨i, t, rfl, e⟩
  | .inr x, v, h => by
    obtain ⟨t, e⟩ := Value.isStrOf_shape (x := x) (v := v) h
    exact .inr ⟨x, t, rfl, e⟩
theorem keyIs_str (x : Str) (t : Tok) : keyIs (.inr x) (.str x t) = true := by simp [keyIs, Value.isStrOf]
theorem key_ll (a b : Int) : decide ((Sum.inl a : Key) = Sum.inl b) = (a == b) := by
  by_cases e : a = b
  · subst e; simp
  · have h : ¬ (Sum.inl a : Key) = Sum.inl b := fun q => e (Sum.inl.inj q)
    rw [decide_eq_false h]
    exact (beq_eq_false_iff_ne.mpr e).symm
theorem key_rr (a b : Str) : decide ((Sum.inr a : Key) = Sum.inr b) = decide (a = b) := by
  by_cases e : a = b
  · subst e; simp
  · have h : ¬ (Sum.inr a : Key) = Sum.inr b := fun q => e (Sum.inr.inj q)
    rw [decide_eq_false h, decide_eq_false e]
theorem key_lr (a : Int) (b : Str) : decide ((Sum.inl a : Key) = Sum.inr b) = false := decide_eq_false (fun q => nomatch q)
theorem key_rl (a : Str) (b : Int) : decide ((Sum.inr a : Key) = Sum.inl b) = false := decide_eq_false (fun q => nomatch q)
def mixKind (prog : Program) (w : World) : PySem.KeyKind prog w Key where
  is := keyIs
  hash := keyH w
  inj := fun v a b ha hb => by
    rcases keyIs_shape ha with ⟨i, t, rfl, rfl⟩ | ⟨x, t, rfl, rfl⟩
    · rcases keyIs_shape hb with ⟨j, u, rfl, e⟩ | ⟨y, u, rfl, e⟩
      · injection e with e1 _; rw [e1]
      · exact nomatch e
    · rcases keyIs_shape hb with ⟨j, u, rfl, e⟩ | ⟨y, u, rfl, e⟩
      · exact nomatch e
      · injection e with e1 _; rw [e1]
  byValue := fun k v h => by
    rcases keyIs_shape h with ⟨i, t, rfl, rfl⟩ | ⟨x, t, rfl, rfl⟩ <;> rfl
  pyHash := fun hv h => by
    rcases keyIs_shape hv with ⟨i, t, rfl, rfl⟩ | ⟨x, t, rfl, rfl⟩
    · exact wpAny_pyHash_int h
    · exact wpAny_pyHash_str h
  eqBool := fun hu hv h => by
    rcases keyIs_shape hu with ⟨i, t, rfl, rfl⟩ | ⟨x, t, rfl, rfl⟩
    · rcases keyIs_shape hv with ⟨j, u, rfl, rfl⟩ | ⟨y, u, rfl, rfl⟩
      · rw [key_ll] at h; exact wpAny_eqBool_int h
      · rw [key_lr] at h; exact SeqAt.EqAt.int_str i t y u _ _ _ _ h
    · rcases keyIs_shape hv with ⟨j, u, rfl, rfl⟩ | ⟨y, u, rfl, rfl⟩
      · rw [key_rl] at h; exact SeqAt.EqAt.str_int x t j u _ _ _ _ h
      · rw [key_rr] at h; exact wpAny_eqBool_str h
  «strs» := fun k x t v h => by
    rcases keyIs_shape h with ⟨i, u, rfl, e⟩ | ⟨y, u, rfl, e⟩
    · exact nomatch e
    · injection e with e1 _
      subst e1
      cases v <;> rfl
end L2
namespace L2
open PySem PySem.Spec PyProof.Rows
inductive V where
  | non | bl (b : Bool) | int (i : Int) | str (x : Str) | byt (b : Array UInt8) | flt (b : UInt64) | ref (a : Addr) | ty (n : String)
  deriving DecidableEq
def RelV : V → Value → Prop
  | .non, u => u = Value.none
  | .bl b, u => u = Value.bool b
  | .int i, u => ∃ t, u = Value.int i t
  | .str x, u => ∃ t, u = Value.str x t
  | .byt b, u => ∃ t, u = Value.bytes b t
  | .flt b, u => ∃ t, u = Value.float b t
  | .ref a, u => u = Value.ref a
  | .ty n, u => u = Value.type n
abbrev Vals : List V → List Value → Prop := Paired RelV
theorem Vals.length {xs : List V} {us : List Value} (r : Vals xs us) : xs.length = us.length := Paired.length r
theorem Vals.get : ∀ {xs : List V} {us : List Value} {i : Nat} {x : V}, Vals xs us → xs[i]? = some x → ∃ u, us[i]? = some u ∧ RelV x u
  | _, _, _, _, .nil, e => by simp at e
  | _, _, 0, _, .cons r _, e => by simp at e; subst e; exact ⟨_, rfl, r⟩
  | _, _, i + 1, x, .cons _ t, e => by
    obtain ⟨u, h1, h2⟩ := Vals.get (i := i) (x := x) t (by simpa using e)
    exact ⟨u, by simpa using h1, h2⟩
theorem Vals.set {x : V} {u : Value} (r : RelV x u) : ∀ {xs : List V} {us : List Value} (i : Nat), Vals xs us → Vals (xs.set i x) (us.set i u)
  | _, _, _, .nil => .nil
  | _, _, 0, .cons _ t => .cons r t
  | _, _, i + 1, .cons q t => .cons q (Vals.set r i t)
theorem Vals.append : ∀ {xs ys : List V} {us ws : List Value}, Vals xs us → Vals ys ws → Vals (xs ++ ys) (us ++ ws)
  | _, _, _, _, .nil, s => s
  | _, _, _, _, .cons r t, s => .cons r (Vals.append t s)
theorem Vals.take : ∀ {xs : List V} {us : List Value} (n : Nat), Vals xs us → Vals (xs.take n) (us.take n)
  | _, _, 0, _ => .nil
  | _, _, _ + 1, .nil => .nil
  | _, _, n + 1, .cons r t => .cons r (Vals.take n t)
theorem Vals.drop : ∀ {xs : List V} {us : List Value} (n : Nat), Vals xs us → Vals (xs.drop n) (us.drop n)
  | _, _, 0, r => r
  | _, _, _ + 1, .nil => .nil
  | _, _, n + 1, .cons _ t => Vals.drop n t
def RelO : Option V → Option Value → Prop
  | some v, some u => RelV v u
  | none, none => True
  | _, _ => False
def KV {κ : Type} : List (κ × V) → List (κ × Value) → Prop := Paired fun (p : κ × V) (q : κ × Value) => p.1 = q.1 ∧ RelV p.2 q.2
def kV : Key → V
  | .inl i => .int i
  | .inr x => .str x
inductive HO where
  | lst (xs : List V)
  | tup (xs : List V)
  | dK (kvs : List (Key × V)) | dT (kvs : List (List Key × V))
  | set (S : Int → Bool) (n : Nat)
  | ins (C dx : Addr) (fs : List (Str × V))
  | own (x : Addr)
  | xd (fs : List (Str × V))
  | met (f x : Addr)
  | rng (lo hi : Int)
  | frz (o : Obj) (u : HO)
  | tbl (ps : Array Value)
  | ext (φ : Heap → Prop)
abbrev Hp := Addr → Option HO
def upd (H : Hp) (a : Addr) (o : HO) : Hp := fun b => if b = a then some o else H b
theorem upd_same {H : Hp} {a : Addr} {o : HO} : upd H a o a = some o := by unfold upd; rw [if_pos rfl]
theorem upd_ne {H : Hp} {a b : Addr} {o : HO} (h : b ≠ a) : upd H a o b = H b := by unfold upd; rw [if_neg h]
theorem ne_of_none {H : Hp} {a b : Addr} {o : HO} (h : H a = some o) (h' : H b = none) : a ≠ b := by
  intro e; subst e; rw [h] at h'; cases h'
section
variable (P : Program) (w : World)
def ObjOk (H : Hp) (h : Heap) (a : Addr) : HO → Prop
  | .lst xs => xs.length ≤ sizeLine ∧ ∃ (its : List Value) (n : Nat), Vals xs its ∧ h.get? a = some { cls := .type "list", data := .seq its.toArray n }
  | .tup xs => xs.length ≤ sizeLine ∧ ∃ its : List Value, Vals xs its ∧ IsTup h a its.toArray
  | .dK kvs => kvs.length ≤ sizeLine ∧ (a == sysModules) = false ∧ ∃ vs, KV kvs vs ∧ h.DictOf (mixKind P w) a vs
  | .dT kvs => kvs.length ≤ sizeLine ∧ (a == sysModules) = false ∧ ∃ xs : List (List Key × Addr × Value),
      Paired (fun (p : List Key × V) (q : List Key × Addr × Value) => p.1 = q.1 ∧ H q.2.1 = some (.tup (p.1.map kV)) ∧ RelV p.2 q.2.2) kvs xs ∧
      ∃ o es ep, h.get? a = some o ∧ o.ExactDict ∧ o.data = .dict es ep ∧ es.toList = xs.map (entryOfKey (tupleKind (mixKind P w))) ∧ (xs.map (·.1)).Nodup
  | .set S n => h.SetOf (intKind P w) a S n
  | .ins C dx fs => H dx = some (.own a) ∧ fs.length ≤ 1000 ∧ dx ≠ a ∧ h.get? a = some (PySem.W.instObj C dx) ∧
      ∃ mA, h.Ns1 dx mA ∧ (∀ f, RelO (fs.lookup f) (mA f)) ∧ PySem.Within mA (fs.map (·.1))
  | .own _ => ∃ o, h.get? a = some o
  | .xd fs => ∃ mA, h.Ns1 a mA ∧ ∀ f, RelO (fs.lookup f) (mA f)
  | .rng lo hi => ∃ t u v, h.get? a = some { cls := .type "range", data := .fields #[.int lo t, .int hi u, .int 1 v] }
  | .frz o u => h.get? a = some o ∧ ObjOk H h a u
  | .tbl ps => h.get? a = some { cls := .none, data := .fields ps }
  | .met f x => h.get? a = some (PySem.W.methodObj (.ref f) (.ref x))
  | .ext φ => φ h ∧ (∃ o, h.get? a = some o) ∧ ∀ h1 h2 : Heap, φ h1 → (∀ o, h1.get? a = some o → h2.get? a = some o) → φ h2
def HOk (H : Hp) (h : Heap) : Prop := ∀ a o, H a = some o → ObjOk P w H h a o
end
section
variable {P : Program} {w : World} {H H' : Hp} {h h' : Heap} {a : Addr} {o : HO}
theorem ObjOk.lt (x : ObjOk P w H h a o) : a < h.objs.size := by
  cases o with
  | lst xs => obtain ⟨_, _, _, _, e⟩ := x; exact Heap.lt_size e
  | tup xs => obtain ⟨_, _, _, p⟩ := x; exact p.lt
  | dK kvs => obtain ⟨_, _, _, _, o, _, _, e, _⟩ := x; exact Heap.lt_size e
  | dT kvs => obtain ⟨_, _, _, _, o, _, _, e, _⟩ := x; exact Heap.lt_size e
  | set S n => obtain ⟨o, _, _, _, e, _⟩ := x; exact Heap.lt_size e
  | ins C dx fs => obtain ⟨_, _, _, e, _⟩ := x; exact Heap.lt_size e
  | own y => obtain ⟨_, e⟩ := x; exact Heap.lt_size e
  | xd fs => obtain ⟨_, ⟨_, _, _, e, _⟩, _⟩ := x; exact Heap.lt_size e
  | rng lo hi => obtain ⟨_, _, _, e⟩ := x; exact Heap.lt_size e
  | frz ob u => obtain ⟨e, _⟩ := x; exact Heap.lt_size e
  | tbl ps => exact Heap.lt_size (show h.get? a = some _ from x)
  | met f y => exact Heap.lt_size (show h.get? a = some _ from x)
  | ext φ => obtain ⟨_, ⟨_, e⟩, _⟩ := x; exact Heap.lt_size e
theorem Paired.mapP {α β : Type} {F G : α → β → Prop} : ∀ {l₁ : List α} {l₂ : List β}, Paired F l₁ l₂ → (∀ a b, F a b → G a b) → Paired G l₁ l₂
  | _, _, .nil, _ => .nil
  | _, _, .cons r t, f => .cons (f _ _ r) (Paired.mapP t f)
theorem ObjOk.stay (x : ObjOk P w H h a o) (k : ∀ b u, (b = a ∨ H b = some (.own a)) → h.get? b = some u → h'.get? b = some u)
    (ho : ∀ b, H b = some (.own a) → H' b = some (.own a)) (ht : ∀ b xs, H b = some (.tup xs) → H' b = some (.tup xs)) : ObjOk P w H' h' a o := by
  induction o with
  | lst xs => obtain ⟨z, its, n, r, e⟩ := x; exact ⟨z, its, n, r, k _ _ (.inl rfl) e⟩
  | tup xs => obtain ⟨z, its, r, ob, e, c⟩ := x; exact ⟨z, its, r, ob, k _ _ (.inl rfl) e, c⟩
  | dK kvs => obtain ⟨z, y, vs, r, ob, es, ep, e, c⟩ := x; exact ⟨z, y, vs, r, ob, es, ep, k _ _ (.inl rfl) e, c⟩
  | dT kvs =>
    obtain ⟨z, y, xs, r, ob, es, ep, e, c⟩ := x
    exact ⟨z, y, xs, Paired.mapP r fun p q z => ⟨z.1, ht _ _ z.2.1, z.2.2⟩, ob, es, ep, k _ _ (.inl rfl) e, c⟩
  | set S n => obtain ⟨ob, es, ep, t, e, c⟩ := x; exact ⟨ob, es, ep, t, k _ _ (.inl rfl) e, c⟩
  | ins C dx fs =>
    obtain ⟨d, z, ne, e, mA, ⟨od, es, ep, e2, c⟩, r⟩ := x
    exact ⟨ho _ d, z, ne, k _ _ (.inl rfl) e, mA, ⟨od, es, ep, k _ _ (.inr d) e2, c⟩, r⟩
  | own y => obtain ⟨ob, e⟩ := x; exact ⟨ob, k _ _ (.inl rfl) e⟩
  | xd fs => obtain ⟨mA, ⟨od, es, ep, e, c⟩, r⟩ := x; exact ⟨mA, ⟨od, es, ep, k _ _ (.inl rfl) e, c⟩, r⟩
  | rng lo hi => obtain ⟨t, u, v, e⟩ := x; exact ⟨t, u, v, k _ _ (.inl rfl) e⟩
  | frz ob u ih => obtain ⟨e, q⟩ := x; exact ⟨k _ _ (.inl rfl) e, ih q⟩
  | tbl ps =>
    have e : h.get? a = some { cls := .none, data := .fields ps } := x
    show h'.get? a = some { cls := .none, data := .fields ps }
    exact k a _ (.inl rfl) e
  | met f y =>
    have e : h.get? a = some (PySem.W.methodObj (.ref f) (.ref y)) := x
    show h'.get? a = some (PySem.W.methodObj (.ref f) (.ref y))
    exact k a _ (.inl rfl) e
  | ext φ => obtain ⟨p, ⟨o, e⟩, st⟩ := x; exact ⟨st _ _ p fun o q => k _ _ (.inl rfl) q, ⟨o, k _ _ (.inl rfl) e⟩, st⟩
theorem HOk.lt (x : HOk P w H h) (e : H a = some o) : a < h.objs.size := (x a o e).lt
theorem HOk.fresh (x : HOk P w H h) (e : h.objs.size ≤ a) : H a = none := by
  cases q : H a with
  | none => rfl
  | some u => exact absurd (Nat.lt_of_lt_of_le (x.lt q) e) (Nat.lt_irrefl _)
theorem HOk.kept (x : HOk P w H h) (k : ∀ b u, h.get? b = some u → h'.get? b = some u) : HOk P w H h' := fun a o e =>
  (x a o e).stay (fun b u _ q => k b u q) (fun _ q => q) fun _ _ q => q
theorem HOk.laid (x : HOk P w H h) (k : ∀ b u, h.get? b = some u → h'.get? b = some u) (hp : h.objs.size ≤ a) (new : ObjOk P w (upd H a o) h' a o) : HOk P w (upd H a o) h' := fun b u e => by
  have hn := x.fresh hp
  by_cases hb : b = a
  · subst hb; rw [upd_same] at e; cases e; exact new
  · rw [upd_ne hb] at e
    exact (x b u e).stay (fun c v _ q => k c v q) (fun c q => by rw [upd_ne (ne_of_none q hn)]; exact q) fun c xs q => by rw [upd_ne (ne_of_none q hn)]; exact q
end
def Rd (H : Hp) (a : Addr) (u : HO) : Prop := H a = some u ∨ ∃ o, H a = some (.frz o u)
theorem Rd.of {H : Hp} {a : Addr} {u : HO} (h : H a = some u) : Rd H a u := .inl h
theorem Rd.ok {P : Program} {w : World} {H : Hp} {h : Heap} {a : Addr} {u : HO} (r : Rd H a u) (x : HOk P w H h) : ObjOk P w H h a u := by
  rcases r with r | ⟨o, r⟩
  · exact x a u r
  · obtain ⟨_, q⟩ := x a _ r
    exact q
def Mut : Option HO → Prop
  | some (.lst _) => True
  | some (.dK _) => True
  | some (.dT _) => True
  | some (.set _ _) => True
  | some (.ins _ _ _) => True
  | some (.ext _) => True
  | _ => False
section
variable {P : Program} {w : World} {H : Hp} {h h' : Heap} {x e : Addr} {o' : HO}
theorem HOk.write (ok : HOk P w H h) (mu : Mut (H x)) (he : e = x ∨ H e = some (.own x)) (k : ∀ b u, b ≠ e → h.get? b = some u → h'.get? b = some u) (heo : ∃ u, h'.get? e = some u)
    (new : ObjOk P w (upd H x o') h' x o') : HOk P w (upd H x o') h' := fun b u q => by
  have nown : ∀ c y, H c = some (.own y) → c ≠ x := fun c y r z => by subst z; rw [r] at mu; exact mu
  have ntup : ∀ c xs, H c = some (.tup xs) → c ≠ x := fun c xs r z => by subst z; rw [r] at mu; exact mu
  by_cases hb : b = x
  · subst hb; rw [upd_same] at q; cases q; exact new
  · rw [upd_ne hb] at q
    by_cases hbe : b = e
    · have q' : H b = some (.own x) := by
        rcases he with z | z
        · exact absurd (hbe.trans z) hb
        · rw [hbe]; exact z
      rw [q] at q'; cases q'
      obtain ⟨v, hv⟩ := heo
      exact ⟨v, by rw [hbe]; exact hv⟩
    · refine (ok b u q).stay (fun c v hc r => k c v ?_ r) (fun c r => by rw [upd_ne (nown c b r)]; exact r) fun c xs r => by rw [upd_ne (ntup c xs r)]; exact r
      rcases hc with rfl | hc
      · exact hbe
      · rintro rfl
        rcases he with z | z
        · exact nown c b hc z
        · rw [hc] at z; cases z; exact hb rfl
end
structure Un (fs ex : List Addr) (H H' : Hp) (h h' : Heap) : Prop where
  keep : ∀ b o, h.get? b = some o → H b = none → b ∉ fs → b ∉ ex → h'.get? b = some o
  slot : ∀ b o, h.get? b = some o → H b = none → b ∈ fs → b ∉ ex → ∃ sl, h'.get? b = some { o with slots := sl }
  free : ∀ b o, h.get? b = some o → H b = none → b ∉ ex → H' b = none
  there : ∀ b o, h.get? b = some o → b ∉ ex → ∃ o', h'.get? b = some o'
  tups : ∀ b xs, H b = some (.tup xs) → H' b = some (.tup xs)
  frzs : ∀ b o u, H b = some (.frz o u) → H' b = some (.frz o u)
  tbls : ∀ b ps, H b = some (.tbl ps) → ∃ more, H' b = some (.tbl (ps ++ more))
section
variable {fs fs' ex ex' : List Addr} {H H1 H2 : Hp} {h h1 h2 h' : Heap} {a x e : Addr} {o : HO}
theorem Un.any (u : Un fs ex H H1 h h1) {b : Addr} {ob : Obj} (q : h.get? b = some ob) (n : H b = none) (hx : b ∉ ex) : ∃ sl, h1.get? b = some { ob with slots := sl } := by
  by_cases hb : b ∈ fs
  · exact u.slot b ob q n hb hx
  · exact ⟨ob.slots, u.keep b ob q n hb hx⟩
theorem Un.trans (a : Un fs ex H H1 h h1) (b : Un fs ex H1 H2 h1 h2) : Un fs ex H H2 h h2 where
  keep := fun c ob q n hc hx => b.keep c ob (a.keep c ob q n hc hx) (a.free c ob q n hx) hc hx
  slot := fun c ob q n hc hx => by
    obtain ⟨sl, e1⟩ := a.slot c ob q n hc hx
    obtain ⟨sl', e2⟩ := b.slot c _ e1 (a.free c ob q n hx) hc hx
    exact ⟨sl', e2⟩
  free := fun c ob q n hx => by
    obtain ⟨o', e1⟩ := a.there c ob q hx
    exact b.free c o' e1 (a.free c ob q n hx) hx
  there := fun c ob q hx => by
    obtain ⟨o', e1⟩ := a.there c ob q hx
    exact b.there c o' e1 hx
  tups := fun c xs q => b.tups c xs (a.tups c xs q)
  frzs := fun c ob xs q => b.frzs c ob xs (a.frzs c ob xs q)
  tbls := fun c ps q => by
    obtain ⟨m1, e1⟩ := a.tbls c ps q
    obtain ⟨m2, e2⟩ := b.tbls c _ e1
    exact ⟨m1 ++ m2, by rw [e2, Array.append_assoc]⟩
theorem Un.kept (k : ∀ b u, h.get? b = some u → h'.get? b = some u) : Un fs ex H H h h' :=
  ⟨fun b ob q _ _ _ => k b ob q, fun b ob q _ _ _ => ⟨ob.slots, k b ob q⟩, fun _ _ _ n _ => n, fun b ob q _ => ⟨ob, k b ob q⟩, fun _ _ q => q, fun _ _ _ q => q, fun _ ps q => ⟨#[], by rw [q]; simp⟩⟩
theorem Un.refl : Un fs ex H H h h := Un.kept fun _ _ q => q
theorem Un.laid (k : ∀ b u, h.get? b = some u → h'.get? b = some u) (hp : h.objs.size ≤ a) (hn : H a = none) : Un fs ex H (upd H a o) h h' where
  keep := fun b u q _ _ _ => k b u q
  slot := fun b u q _ _ _ => ⟨u.slots, k b u q⟩
  free := fun b u q n _ => by rw [upd_ne (Nat.ne_of_lt (Nat.lt_of_lt_of_le (Heap.lt_size q) hp))]; exact n
  there := fun b u q _ => ⟨u, k b u q⟩
  tups := fun b xs q => by rw [upd_ne (ne_of_none q hn)]; exact q
  frzs := fun b u xs q => by rw [upd_ne (ne_of_none q hn)]; exact q
  tbls := fun b ps q => ⟨#[], by rw [upd_ne (ne_of_none q hn), q]; simp⟩
theorem Un.write (mu : Mut (H x)) (he : e = x ∨ H e = some (.own x)) (k : ∀ b u, b ≠ e → h.get? b = some u → h'.get? b = some u) (heo : ∃ u, h'.get? e = some u) : Un fs ex H (upd H x o) h h' := by
  have hx : ∀ b, H b = none → b ≠ x := fun b n z => by subst z; rw [n] at mu; exact mu
  have hb : ∀ b, H b = none → b ≠ e := fun b n z => by
    subst z
    rcases he with r | r
    · exact hx b n r
    · rw [n] at r; cases r
  have hm : ∀ b u, H b = some u → ¬ Mut (some u) → b ≠ x := fun b u q nm z => by subst z; rw [q] at mu; exact nm mu
  refine ⟨fun b u q n _ _ => k b u (hb b n) q, fun b u q n _ _ => ⟨u.slots, k b u (hb b n) q⟩, fun b u q n _ => by rw [upd_ne (hx b n)]; exact n, fun b u q _ => ?_,
    fun b xs q => by rw [upd_ne (hm b _ q fun z => z)]; exact q, fun b u xs q => by rw [upd_ne (hm b _ q fun z => z)]; exact q, fun b ps q => ⟨#[], by rw [upd_ne (hm b _ q fun z => z), q]; simp⟩⟩
  by_cases hbe : b = e
  · subst hbe; exact heo
  · exact ⟨u, k b u hbe q⟩
theorem Un.mono (u : Un fs ex H H1 h h1) (hs : ∀ b ∈ fs, b ∈ fs') (hx : ∀ b ∈ ex, b ∈ ex') : Un fs' ex' H H1 h h1 :=
  ⟨fun b ob q n hb he => u.keep b ob q n (fun z => hb (hs b z)) fun z => he (hx b z), fun _ _ q n _ he => u.any q n fun z => he (hx _ z), fun b ob q n he => u.free b ob q n fun z => he (hx b z), fun b ob q he => u.there b ob q fun z => he (hx b z), u.tups, u.frzs, u.tbls⟩
end
def trk (h : Heap) (H : Hp) : List Addr := (List.range h.objs.size).filter fun a => (H a).isSome
def hidT (h : Heap) (H : Hp) : Heap := PySem.W.hideAll h (trk h H)
theorem hidT_size (h : Heap) (H : Hp) : (hidT h H).objs.size = h.objs.size := PySem.W.hideAll_size _ _
theorem hidT_get {h : Heap} {H : Hp} {b : Addr} {o : Obj} (e : h.get? b = some o) (n : H b = none) : (hidT h H).get? b = some o :=
  PySem.W.hideAll_get _ e fun hm => by
    have q : (H b).isSome = true := (List.mem_filter.mp hm).2
    rw [n] at q; simp at q
theorem of_hidT {h : Heap} {H : Hp} {b : Addr} {o : Obj} (e : (hidT h H).get? b = some o) : h.get? b = some o ∧ H b = none := by
  have e' : h.get? b = some o := PySem.W.of_hideAll (trk h H) e
  refine ⟨e', ?_⟩
  cases q : H b with
  | none => rfl
  | some x =>
    have hm : b ∈ trk h H := List.mem_filter.mpr ⟨List.mem_range.mpr (Heap.lt_size e'), by simp [q]⟩
    have z : (hidT h H).get? b = none := PySem.W.hideAll_none (trk h H) hm
    rw [z] at e; cases e
def allNews (g h : Heap) (L : Addr) : List (Addr × Obj) := (List.range h.objs.size).filterMap fun a => if a = L ∨ (g.get? a).isSome = true then none else (h.get? a).map fun o => (a, o)
def rest (g h : Heap) (L d : Addr) : List (Addr × Obj) := (allNews g h L).filter fun p => decide (p.1 ≠ d)
end L2
namespace L2
open PySem PySem.Spec PyProof.Rows
structure Mod (K : PySem.W.Frag) (mg : Str → Option Value) (base : Heap) : Prop where
  kin : K.In base
  glob : base.Ns mainGlobals mg
  blt : ∃ mb, base.Ns builtinsNs mb ∧ ∀ x : Str, x ≠ "__name__" → mb x = bootBuiltins x
  nolimit : base.NoLimit
structure Cx where
  prog : Program
  w : World
  K : PySem.W.Frag
  mg : Str → Option Value
  base : Heap
  A : Around
  N : List Str
  s₀ : Shared
  H₀ : Hp
  env : Env
  outer : List Env
  stack : List Env
  ex : List Addr
  fn : Str → Bool
  calm : Bool
  pn : List (Addr × Obj)
  xe : Value → Shared → Prop
def frs (l : List Env) : List Addr := l.filterMap (·.frame)
abbrev Cx.fs (X : Cx) : List Addr := frs X.outer
def Vis (sc : Scope) (x : Str) : Prop := sc.names.lookup x = some .local ∨ sc.names.lookup x = some .cell ∨ sc.names.lookup x = some .free
def Loc (sc : Scope) (x : Str) : Prop := sc.names.lookup x = some .local ∨ sc.names.lookup x = some .cell
def Look (env : Env) (h : Heap) (m : Str → Option Value) (x : Str) (u : Value) : Prop :=
  (env.kindOf x = some .local ∧ m x = some u) ∨ ((env.kindOf x = some .cell ∨ env.kindOf x = some .free) ∧ ∃ c, env.cells.lookup x = some c ∧ h.IsCell c (some u))
structure Cx.Ok (X : Cx) : Prop where
  mod : Mod X.K X.mg X.base
  kind : X.env.scope.kind = .function
  glob : X.env.globals = mainGlobals
  blt : X.env.builtins = builtinsNs
  above : X.s₀.heap.objs.size ≤ X.env.locals
  inj : ∀ x y c, X.env.cells.lookup x = some c → X.env.cells.lookup y = some c → x = y
  has : ∀ x, (X.env.kindOf x = some .cell ∨ X.env.kindOf x = some .free) → ∃ c, X.env.cells.lookup x = some c
  cab : ∀ x c, X.fn x = true → X.env.cells.lookup x = some c → X.s₀.heap.objs.size ≤ c
  hd : X.calm = true → X.A.handled = none
  frames : X.A.frames = some X.stack
  stk : X.stack = X.outer ∨ (X.stack = X.env :: X.outer ∧ X.env.frame = some X.env.locals)
  exf : ∀ b ∈ X.ex, b ≠ X.env.locals ∧ ∀ x c, X.env.cells.lookup x = some c → c ≠ b
  bs : ∀ b o, X.base.get? b = some o → X.s₀.heap.get? b = some o ∧ X.H₀ b = none
  bsz : X.base.objs.size ≤ X.s₀.heap.objs.size
  noex : ∀ b o, X.base.get? b = some o → b ∉ X.ex
  exfs : ∀ b ∈ X.ex, b ∉ X.fs
  funs : X.s₀.heap.FunFrames X.base X.outer
  frf : ∀ b ∈ X.fs, X.H₀ b = none
structure Inv (X : Cx) (pins : List (Addr × Obj)) (σ : List (Option V)) (H : Hp) (s : Shared) : Prop where
  ok : X.Ok
  os : s.os = X.s₀.os
  bare : AllBare s.gens
  base : Un X.fs X.ex X.H₀ H X.s₀.heap s.heap
  loc : ∃ m, s.heap.Ns X.env.locals m ∧ ∀ (i : Nat) (x : Str) (v : V), X.N[i]? = some x → σ[i]? = some (some v) → Vis X.env.scope x → ∃ u, RelV v u ∧ Look X.env s.heap m x u
  cell : ∀ x c, X.env.cells.lookup x = some c → ∃ v, s.heap.IsCell c v
  free : H X.env.locals = none
  freeC : ∀ x c, X.env.cells.lookup x = some c → H c = none
  pin : ∀ p ∈ X.pn ++ pins, s.heap.get? p.1 = some p.2 ∧ H p.1 = none ∧ p.1 ≠ X.env.locals ∧ p.1 ∉ X.fs ∧ ∀ v, p.2.data ≠ .cell v
  hok : HOk X.prog X.w H s.heap
  len : σ.length = X.N.length
section
variable {X : Cx} {pins : List (Addr × Obj)} {σ : List (Option V)} {H H' : Hp} {s : Shared} {h' : Heap}
theorem Cx.Ok.nofr (ok : X.Ok) {b : Addr} {o : Obj} (e : X.base.get? b = some o) : b ∉ X.fs := fun hb => by
  have := (ok.funs.mem hb).1
  rw [e] at this; cases this
theorem Inv.bs (I : Inv X pins σ H s) : ∀ b o, X.base.get? b = some o → s.heap.get? b = some o ∧ H b = none := fun b o e =>
  ⟨I.base.keep b o (I.ok.bs b o e).1 (I.ok.bs b o e).2 (I.ok.nofr e) (I.ok.noex b o e), I.base.free b o (I.ok.bs b o e).1 (I.ok.bs b o e).2 (I.ok.noex b o e)⟩
theorem Inv.bk (I : Inv X pins σ H s) : ∀ b o, X.base.get? b = some o → s.heap.get? b = some o := fun b o e => (I.bs b o e).1
theorem Inv.mod (I : Inv X pins σ H s) : Mod X.K X.mg X.base := I.ok.mod
theorem Inv.kIn (I : Inv X pins σ H s) : X.K.In s.heap := I.ok.mod.kin.keeps I.bk
theorem Inv.nolimit (I : Inv X pins σ H s) : s.heap.NoLimit := I.ok.mod.nolimit.keeps I.bk
theorem Inv.lt (I : Inv X pins σ H s) : X.env.locals < s.heap.objs.size := let ⟨_, hn, _⟩ := I.loc; hn.lt
theorem Inv.sz (I : Inv X pins σ H s) : X.s₀.heap.objs.size ≤ s.heap.objs.size := Nat.le_trans I.ok.above (Nat.le_of_lt I.lt)
theorem Inv.nofs (I : Inv X pins σ H s) {a : Addr} (h : s.heap.objs.size ≤ a) : a ∉ X.fs := fun hb => by
  obtain ⟨_, o, ho, _⟩ := I.ok.funs.mem hb
  exact absurd (Nat.lt_of_lt_of_le (Heap.lt_size ho) (Nat.le_trans I.sz h)) (Nat.lt_irrefl _)
theorem Inv.cne (I : Inv X pins σ H s) : ∀ x c, X.env.cells.lookup x = some c → c ≠ X.env.locals := fun x c e z => by
  obtain ⟨v, o, ho, hd⟩ := I.cell x c e
  obtain ⟨m, ⟨o', es, ep, ho', hd', _⟩, _⟩ := I.loc
  rw [z, ho'] at ho; cases ho; rw [hd'] at hd; cases hd
theorem Inv.funs (I : Inv X pins σ H s) : s.heap.FunFrames X.base X.outer := by
  have all : ∀ (l : List Env), (∀ b ∈ frs l, b ∈ X.fs) → X.s₀.heap.FunFrames X.base l → s.heap.FunFrames X.base l := by
    intro l
    induction l with
    | nil => intro _ _; trivial
    | cons env r ih =>
      intro hs hl
      obtain ⟨hk, ⟨L, o, hf, hn, ho, hd⟩, hr⟩ := hl
      have hL : L ∈ X.fs := hs L (by unfold frs; rw [List.filterMap_cons, hf]; exact List.mem_cons_self)
      obtain ⟨sl, e⟩ := I.base.slot L o ho (I.ok.frf L hL) hL fun z => I.ok.exfs L z hL
      exact ⟨hk, ⟨L, _, hf, hn, e, hd⟩, ih (fun b hb => hs b (by unfold frs; rw [List.filterMap_cons, hf]; exact List.mem_cons_of_mem _ hb)) hr⟩
  exact all X.outer (fun _ hb => hb) I.ok.funs
theorem Inv.stack (I : Inv X pins σ H s) : s.heap.FunFrames X.base X.stack := by
  rcases I.ok.stk with e | ⟨e, hf⟩
  · rw [e]; exact I.funs
  · rw [e]
    obtain ⟨m, hn, _⟩ := I.loc
    refine .cons (by rw [I.ok.kind]; decide) hf hn ?_ I.funs
    exact Heap.get?_none_of_le (Nat.le_trans I.ok.bsz I.ok.above)
theorem Inv.stkSub (I : Inv X pins σ H s) : ∀ b ∈ frs X.stack, b ∈ X.env.locals :: X.fs := fun b hb => by
  rcases I.ok.stk with e | ⟨e, hf⟩
  · rw [e] at hb; exact List.mem_cons_of_mem _ hb
  · rw [e] at hb
    unfold frs at hb
    rw [List.filterMap_cons, hf] at hb
    exact hb
theorem Inv.stkFree (I : Inv X pins σ H s) : ∀ b ∈ frs X.stack, H b = none := fun b hb => by
  rcases List.mem_cons.mp (I.stkSub b hb) with e | hb
  · rw [e]; exact I.free
  · obtain ⟨_, o, ho, _⟩ := I.ok.funs.mem hb
    exact I.base.free b o ho (I.ok.frf b hb) fun z => I.ok.exfs b z hb
theorem Inv.step {g' : Array GenState} {t' : Nat} {d' : Drawn} {ch : List Addr} (I : Inv X pins σ H s)
    (hch : ∀ b ∈ ch, (b ∈ X.ex ∨ X.s₀.heap.objs.size ≤ b) ∧ b ≠ X.env.locals ∧ (∀ x c, X.env.cells.lookup x = some c → c ≠ b) ∧ ∀ p ∈ X.pn ++ pins, p.1 ≠ b)
    (keep : ∀ b o, b ≠ X.env.locals → b ∉ X.fs → b ∉ ch → s.heap.get? b = some o → H b = none → h'.get? b = some o)
    (slot : ∀ b o, b ≠ X.env.locals → b ∈ X.fs → b ∉ ch → s.heap.get? b = some o → H b = none → ∃ sl, h'.get? b = some { o with slots := sl }) (free : ∀ b o, b ∉ ch → s.heap.get? b = some o → H b = none → H' b = none)
    (there : ∀ b o, b ∉ ch → s.heap.get? b = some o → ∃ o', h'.get? b = some o')
    (tups : ∀ b xs, H b = some (.tup xs) → H' b = some (.tup xs)) (frzs : ∀ b o u, H b = some (.frz o u) → H' b = some (.frz o u)) (tbls : ∀ b ps, H b = some (.tbl ps) → ∃ more, H' b = some (.tbl (ps ++ more)))
    (ns : ∀ m, s.heap.Ns X.env.locals m → h'.Ns X.env.locals m) (hok : HOk X.prog X.w H' h') (hg : AllBare g') :
    Inv X pins σ H' { s with heap := h', gens := g', drawn := d', toks := t' } := by
  have neL : ∀ b o, X.s₀.heap.get? b = some o → b ≠ X.env.locals := fun b o e => Nat.ne_of_lt (Nat.lt_of_lt_of_le (Heap.lt_size e) I.ok.above)
  have neC : ∀ b o, X.s₀.heap.get? b = some o → b ∉ X.ex → b ∉ ch := fun b o e hx hb => by
    rcases (hch b hb).1 with z | z
    · exact hx z
    · exact absurd (Nat.lt_of_lt_of_le (Heap.lt_size e) z) (Nat.lt_irrefl _)
  have cellK : ∀ x c, X.env.cells.lookup x = some c → ∀ v, s.heap.IsCell c v → h'.IsCell c v := fun x c e v ⟨o, ho, hd⟩ => by
    have nch : c ∉ ch := fun z => (hch c z).2.2.1 x c e rfl
    by_cases hc : c ∈ X.fs
    · obtain ⟨sl, q⟩ := slot c o (I.cne x c e) hc nch ho (I.freeC x c e)
      exact ⟨_, q, hd⟩
    · exact ⟨o, keep c o (I.cne x c e) hc nch ho (I.freeC x c e), hd⟩
  refine ⟨I.ok, I.os, hg, ⟨fun b o e n hb hx => ?_, fun b o e n hb hx => ?_, fun b o e n hx => ?_, fun b o e hx => ?_, fun b xs e => tups b xs (I.base.tups b xs e), fun b o xs e => frzs b o xs (I.base.frzs b o xs e), fun b ps e => ?_⟩, ?_, fun x c e => ?_, ?_, fun x c e => ?_, fun p hp => ?_, hok, I.len⟩
  · exact keep b o (neL b o e) hb (neC b o e hx) (I.base.keep b o e n hb hx) (I.base.free b o e n hx)
  · obtain ⟨sl, e1⟩ := I.base.slot b o e n hb hx
    obtain ⟨sl', e2⟩ := slot b _ (neL b o e) hb (neC b o e hx) e1 (I.base.free b o e n hx)
    exact ⟨sl', e2⟩
  · obtain ⟨o', e1⟩ := I.base.there b o e hx
    exact free b o' (neC b o e hx) e1 (I.base.free b o e n hx)
  · obtain ⟨o', e1⟩ := I.base.there b o e hx
    exact there b o' (neC b o e hx) e1
  · obtain ⟨m1, e1⟩ := I.base.tbls b ps e
    obtain ⟨m2, e2⟩ := tbls b _ e1
    exact ⟨m1 ++ m2, by rw [e2, Array.append_assoc]⟩
  · obtain ⟨m, hn, hl⟩ := I.loc
    refine ⟨m, ns m hn, fun i x v e1 e2 e3 => ?_⟩
    obtain ⟨u, r, l⟩ := hl i x v e1 e2 e3
    refine ⟨u, r, ?_⟩
    rcases l with l | ⟨k, c, e, z⟩
    · exact .inl l
    · exact .inr ⟨k, c, e, cellK x c e _ z⟩
  · obtain ⟨v, z⟩ := I.cell x c e
    exact ⟨v, cellK x c e v z⟩
  · obtain ⟨m, ⟨o, _, _, ho, _⟩, _⟩ := I.loc
    exact free _ o (fun z => (hch _ z).2.1 rfl) ho I.free
  · obtain ⟨v, o, ho, hd⟩ := I.cell x c e
    exact free c o (fun z => (hch c z).2.2.1 x c e rfl) ho (I.freeC x c e)
  · obtain ⟨e, n, ne, nf, d⟩ := I.pin p hp
    have nch : p.1 ∉ ch := fun z => (hch p.1 z).2.2.2 p hp rfl
    exact ⟨keep p.1 p.2 ne nf nch e n, free p.1 p.2 nch e n, ne, nf, d⟩
theorem Inv.un {t' : Nat} (I : Inv X pins σ H s) (u : Un X.fs [] H H' s.heap h') (hok : HOk X.prog X.w H' h') : Inv X pins σ H' { s with heap := h', toks := t' } := by
  obtain ⟨m, ⟨o, es, ep, ho, r⟩, _⟩ := id I.loc
  obtain ⟨sl, hL⟩ := u.any ho I.free (by simp)
  exact I.step (g' := s.gens) (d' := s.drawn) (ch := []) (fun _ z => nomatch z) (fun b o _ hb _ e n => u.keep b o e n hb (by simp)) (fun b o _ hb _ e n => u.slot b o e n hb (by simp)) (fun b o _ e n => u.free b o e n (by simp)) (fun b o _ e => u.there b o e (by simp)) u.tups u.frzs u.tbls (fun m' hm => by
    obtain ⟨o', es', ep', ho', r'⟩ := hm
    rw [ho] at ho'; cases ho'
    exact ⟨_, es', ep', hL, r'⟩) hok I.bare
theorem Inv.call {g' : Array GenState} {t' : Nat} {d' : Drawn} {ch : List Addr} (I : Inv X pins σ H s) (u : Un (frs X.stack) ch H H' s.heap h') (hok : HOk X.prog X.w H' h') (hg : AllBare g')
    (hch : ∀ b ∈ ch, (b ∈ X.ex ∨ X.s₀.heap.objs.size ≤ b) ∧ b ≠ X.env.locals ∧ (∀ x c, X.env.cells.lookup x = some c → c ≠ b) ∧ ∀ p ∈ X.pn ++ pins, p.1 ≠ b) :
    Inv X pins σ H' { s with heap := h', gens := g', drawn := d', toks := t' } := by
  obtain ⟨m, ⟨o, es, ep, ho, r⟩, _⟩ := id I.loc
  obtain ⟨sl, hL⟩ := u.any ho I.free fun z => (hch _ z).2.1 rfl
  exact I.step (ch := ch) hch (fun b o hL hb hc e n => u.keep b o e n (fun z => (List.mem_cons.mp (I.stkSub b z)).elim hL hb) hc) (fun b o _ _ hc e n => u.any e n hc) (fun b o hc e n => u.free b o e n hc) (fun b o hc e => u.there b o e hc) u.tups u.frzs u.tbls (fun m' hm => by
    obtain ⟨o', es', ep', ho', r'⟩ := hm
    rw [ho] at ho'; cases ho'
    exact ⟨_, es', ep', hL, r'⟩) hok hg
theorem Inv.turned {t' : Nat} {it : Addr} (I : Inv X pins σ H s) (k : ∀ b o, b ≠ it → s.heap.get? b = some o → h'.get? b = some o) (hn : H it = none) (hL : it ≠ X.env.locals)
    (h1 : it ∈ X.ex ∨ X.s₀.heap.objs.size ≤ it) (h2 : ∀ x c, X.env.cells.lookup x = some c → c ≠ it) (h3 : ∀ p ∈ X.pn ++ pins, p.1 ≠ it) : Inv X pins σ H { s with heap := h', toks := t' } := by
  have nit : ∀ b u, H b = some u → b ≠ it := fun b u e z => by rw [z, hn] at e; cases e
  refine I.step (g' := s.gens) (d' := s.drawn) (ch := [it]) (fun b hb => ?_) (fun b o _ _ hc e _ => k b o (fun z => hc (by simp [z])) e) (fun b o _ _ hc e _ => ⟨o.slots, k b o (fun z => hc (by simp [z])) e⟩) (fun _ _ _ _ n => n)
    (fun b o hc e => ⟨o, k b o (fun z => hc (by simp [z])) e⟩) (fun _ _ e => e) (fun _ _ _ e => e) (fun b ps e => ⟨#[], by rw [e]; simp⟩) (fun m hm => ?_) (fun b u e => ?_) I.bare
  · have e : b = it := by simpa using hb
    subst e
    exact ⟨h1, hL, h2, h3⟩
  · obtain ⟨o, es, ep, ho, r⟩ := hm
    exact ⟨o, es, ep, k _ o (Ne.symm hL) ho, r⟩
  · refine (I.hok b u e).stay (fun c v hc q => k c v ?_ q) (fun _ q => q) fun _ _ q => q
    rcases hc with z | z
    · rw [z]; exact nit b u e
    · exact nit c _ z
theorem Inv.tok (I : Inv X pins σ H s) (t : Nat) : Inv X pins σ H { s with toks := t } := I.un (h' := s.heap) (t' := t) Un.refl I.hok
theorem Inv.kept {t' : Nat} (I : Inv X pins σ H s) (k : ∀ b u, s.heap.get? b = some u → h'.get? b = some u) : Inv X pins σ H { s with heap := h', toks := t' } := I.un (Un.kept k) (I.hok.kept k)
theorem Inv.laid {a : Addr} {o : HO} {t' : Nat} (I : Inv X pins σ H s) (k : ∀ b u, s.heap.get? b = some u → h'.get? b = some u) (hp : s.heap.objs.size ≤ a) (new : ObjOk X.prog X.w (upd H a o) h' a o) :
    Inv X pins σ (upd H a o) { s with heap := h', toks := t' } := I.un (Un.laid k hp (I.hok.fresh hp)) (I.hok.laid k hp new)
theorem Inv.write {x e : Addr} {o : HO} {t' : Nat} (I : Inv X pins σ H s) (mu : Mut (H x)) (he : e = x ∨ H e = some (.own x)) (k : ∀ b u, b ≠ e → s.heap.get? b = some u → h'.get? b = some u) (heo : ∃ u, h'.get? e = some u)
    (new : ObjOk X.prog X.w (upd H x o) h' x o) : Inv X pins σ (upd H x o) { s with heap := h', toks := t' } := I.un (Un.write mu he k heo) (I.hok.write mu he k heo new)
theorem Inv.pins_of {pins' : List (Addr × Obj)} (I : Inv X pins σ H s) (h : ∀ p ∈ pins', s.heap.get? p.1 = some p.2 ∧ H p.1 = none ∧ p.1 ≠ X.env.locals ∧ p.1 ∉ X.fs ∧ ∀ v, p.2.data ≠ .cell v) : Inv X pins' σ H s :=
  ⟨I.ok, I.os, I.bare, I.base, I.loc, I.cell, I.free, I.freeC, fun p hp => (List.mem_append.mp hp).elim (fun z => I.pin p (List.mem_append_left _ z)) (h p), I.hok, I.len⟩
theorem nodup_ix {N : List Str} (hN : N.Nodup) {i j : Nat} {x : Str} (a : N[i]? = some x) (b : N[j]? = some x) : i = j := by
  obtain ⟨h1, e1⟩ := List.getElem?_eq_some_iff.mp a
  obtain ⟨h2, e2⟩ := List.getElem?_eq_some_iff.mp b
  exact (List.getElem_inj hN).mp (e1.trans e2.symm)
theorem store_ok2 {M : Model} {A : Around} {E : Value → Shared → Prop} {i : Nat} {x : Str} {v : V} {u : Value} {Q : Unit → Shared → Prop} (I : Inv X pins σ H s) (hN : X.N.Nodup) (hi : X.N[i]? = some x) (hx : Loc X.env.scope x) (r : RelV v u)
    (h : ∀ s', Inv X pins (σ.set i (some v)) H s' → (∃ a, Heap.SameBut a s.heap s'.heap ∧ (a = X.env.locals ∨ X.env.cells.lookup x = some a)) → Q () s') (hf : X.fn x = true ∨ X.env.scope.names.lookup x = some .local := by first | exact .inl rfl | exact .inr rfl | assumption) : wpAny M A (storeName X.env x u) Q E s := by
  obtain ⟨m, hn, hl⟩ := id I.loc
  have hcls : (X.env.scope.kind == .class || (X.env.scope.kind == .module && X.env.locals != X.env.globals)) = false := by rw [I.ok.kind]; rfl
  have hiσ : i < σ.length := by rw [I.len]; exact (List.getElem?_eq_some_iff.mp hi).1
  have cne := I.cne
  have tracked : ∀ {a : Addr} {h' : Heap}, (∃ o, s.heap.get? a = some o ∧ H a = none) → Heap.SameBut a s.heap h' → HOk X.prog X.w H h' := fun {a h'} ha hs b ob e => by
    obtain ⟨_, _, hfree⟩ := ha
    refine (I.hok b ob e).stay (fun c w' hc q => (hs.2 c ?_).trans q) (fun _ q => q) fun _ _ q => q
    rintro rfl
    rcases hc with rfl | hc
    · rw [hfree] at e; cases e
    · rw [hfree] at hc; cases hc
  rcases hx with hk | hk
  · refine wpAny_storeName_local hk hn (fun h' hn' hs => ?_) hcls
    obtain ⟨oL, _, _, hoL, _⟩ := id hn
    refine h _ ⟨I.ok, I.os, I.bare, ⟨fun b o e n hb hx => ?_, fun b o e n hb hx => ?_, I.base.free, fun b o e hx => ?_, I.base.tups, I.base.frzs, I.base.tbls⟩, ⟨_, hn', fun j y v' e1 e2 e3 => ?_⟩, fun y c e => ?_, I.free, I.freeC, fun p hp => ?_, tracked ⟨oL, hoL, I.free⟩ hs, by simpa using I.len⟩ ⟨_, hs, .inl rfl⟩
    · exact (hs.2 b (Nat.ne_of_lt (Nat.lt_of_lt_of_le (Heap.lt_size e) I.ok.above))).trans (I.base.keep b o e n hb hx)
    · obtain ⟨sl, e1⟩ := I.base.slot b o e n hb hx
      exact ⟨sl, (hs.2 b (Nat.ne_of_lt (Nat.lt_of_lt_of_le (Heap.lt_size e) I.ok.above))).trans e1⟩
    · obtain ⟨o', e1⟩ := I.base.there b o e hx
      exact ⟨o', (hs.2 b (Nat.ne_of_lt (Nat.lt_of_lt_of_le (Heap.lt_size e) I.ok.above))).trans e1⟩
    · by_cases hj : j = i
      · subst hj
        rw [hi] at e1; cases e1
        rw [List.getElem?_set_self hiσ] at e2
        cases e2
        exact ⟨u, r, .inl ⟨hk, by simp⟩⟩
      · rw [List.getElem?_set_ne (Ne.symm hj)] at e2
        obtain ⟨u', r', q⟩ := hl j y v' e1 e2 e3
        refine ⟨u', r', ?_⟩
        rcases q with ⟨k, e⟩ | ⟨k, c, e, z⟩
        · refine .inl ⟨k, ?_⟩
          have : y ≠ x := fun e => hj (nodup_ix hN e1 (e ▸ hi))
          simp [this, e]
        · exact .inr ⟨k, c, e, z.sameBut hs (cne y c e)⟩
    · obtain ⟨w', z⟩ := I.cell y c e
      exact ⟨w', z.sameBut hs (cne y c e)⟩
    · obtain ⟨e, n, ne, nf, d⟩ := I.pin p hp
      exact ⟨(hs.2 p.1 ne).trans e, n, ne, nf, d⟩
  · have hfn : X.fn x = true := by
      rcases hf with z | z
      · exact z
      · rw [z] at hk; cases hk
    obtain ⟨c, hc⟩ := I.ok.has x (.inl hk)
    obtain ⟨w', z⟩ := I.cell x c hc
    refine wpAny_storeName_cell I.ok.kind hk hc z (fun h' hc' hs => ?_)
    obtain ⟨oc, hoc, hocd⟩ := id z
    refine h { s with heap := h' } ⟨I.ok, I.os, I.bare, ⟨fun b o e n hb hx => ?_, fun b o e n hb hx => ?_, I.base.free, fun b o e hx => ?_, I.base.tups, I.base.frzs, I.base.tbls⟩, ⟨m, hn.sameBut hs (Ne.symm (cne x c hc)), fun j y v' e1 e2 e3 => ?_⟩, fun y c' e => ?_, I.free, I.freeC, fun p hp => ?_, tracked ⟨oc, hoc, I.freeC x c hc⟩ hs, by simpa using I.len⟩ ⟨c, hs, .inr hc⟩
    · exact (hs.2 b (Nat.ne_of_lt (Nat.lt_of_lt_of_le (Heap.lt_size e) (I.ok.cab x c hfn hc)))).trans (I.base.keep b o e n hb hx)
    · obtain ⟨sl, e1⟩ := I.base.slot b o e n hb hx
      exact ⟨sl, (hs.2 b (Nat.ne_of_lt (Nat.lt_of_lt_of_le (Heap.lt_size e) (I.ok.cab x c hfn hc)))).trans e1⟩
    · obtain ⟨o', e1⟩ := I.base.there b o e hx
      exact ⟨o', (hs.2 b (Nat.ne_of_lt (Nat.lt_of_lt_of_le (Heap.lt_size e) (I.ok.cab x c hfn hc)))).trans e1⟩
    · by_cases hj : j = i
      · subst hj
        rw [hi] at e1; cases e1
        rw [List.getElem?_set_self hiσ] at e2
        cases e2
        exact ⟨u, r, .inr ⟨.inl hk, c, hc, hc'⟩⟩
      · rw [List.getElem?_set_ne (Ne.symm hj)] at e2
        obtain ⟨u', r', q⟩ := hl j y v' e1 e2 e3
        refine ⟨u', r', ?_⟩
        rcases q with q | ⟨k, c', e, z'⟩
        · exact .inl q
        · refine .inr ⟨k, c', e, z'.sameBut hs ?_⟩
          rintro rfl
          exact hj (nodup_ix hN e1 (I.ok.inj _ _ _ e hc ▸ hi))
    · by_cases hcc : c' = c
      · subst hcc; exact ⟨_, hc'⟩
      · obtain ⟨w2, z2⟩ := I.cell y c' e
        exact ⟨w2, z2.sameBut hs hcc⟩
    · obtain ⟨e, n, ne, nf, d⟩ := I.pin p hp
      refine ⟨(hs.2 p.1 ?_).trans e, n, ne, nf, d⟩
      intro q
      rw [q, hoc] at e
      have q' : oc = p.2 := Option.some.inj e
      exact d w' (by rw [← q']; exact hocd)
theorem store_ok {M : Model} {A : Around} {E : Value → Shared → Prop} {i : Nat} {x : Str} {v : V} {u : Value} {Q : Unit → Shared → Prop} (I : Inv X pins σ H s) (hN : X.N.Nodup) (hi : X.N[i]? = some x) (hx : Loc X.env.scope x) (r : RelV v u)
    (h : ∀ s', Inv X pins (σ.set i (some v)) H s' → Q () s') (hf : X.fn x = true ∨ X.env.scope.names.lookup x = some .local := by first | exact .inl rfl | exact .inr rfl | assumption) : wpAny M A (storeName X.env x u) Q E s :=
  store_ok2 I hN hi hx r (fun s' I' _ => h s' I') hf
theorem Inv.call' {s' : Shared} {ch : List Addr} (I : Inv X pins σ H s) (ho : s'.os = s.os) (u : Un (frs X.stack) ch H H' s.heap s'.heap) (hok : HOk X.prog X.w H' s'.heap) (hg : AllBare s'.gens)
    (hch : ∀ b ∈ ch, (b ∈ X.ex ∨ X.s₀.heap.objs.size ≤ b) ∧ b ≠ X.env.locals ∧ (∀ x c, X.env.cells.lookup x = some c → c ≠ b) ∧ ∀ p ∈ X.pn ++ pins, p.1 ≠ b) : Inv X pins σ H' s' := by
  obtain ⟨h', g', d', t', o'⟩ := s'
  have e : o' = s.os := ho
  subst e
  exact I.call (g' := g') (t' := t') (d' := d') u hok hg hch
end
abbrev XK := Value → Option Addr → Hp → Prop
abbrev St := List (Option V)
abbrev VK := V → Hp → Prop
abbrev TE := St → Hp → VK → Prop
abbrev TT := St → Hp → (Bool → Hp → Prop) → Prop
abbrev TA := St → Hp → (List V → Hp → Prop) → Prop
structure Ends where
  nx : St → Hp → Prop
  rt : VK
  bk : St → Hp → Prop := fun _ _ => False
  ct : St → Hp → Prop := fun _ _ => False
abbrev TS := Ends → St → Hp → Prop
def EP (X : Cx) (pins : List (Addr × Obj)) (σ : St) (Q : VK) (u : Value) (s' : Shared) : Prop := ∃ v H', Inv X pins σ H' s' ∧ RelV v u ∧ Q v H'
def TP (X : Cx) (pins : List (Addr × Obj)) (σ : St) (Q : Bool → Hp → Prop) (b : Bool) (s' : Shared) : Prop := ∃ H', Inv X pins σ H' s' ∧ Q b H'
def AP (X : Cx) (pins : List (Addr × Obj)) (σ : St) (Q : List V → Hp → Prop) (us : List Value) (s' : Shared) : Prop := ∃ vs H', Inv X pins σ H' s' ∧ Vals vs us ∧ Q vs H'
def SP (X : Cx) (pins : List (Addr × Obj)) (D : Ends) (f : Flow) (s' : Shared) : Prop :=
  match f with
  | .next => ∃ σ' H', Inv X pins σ' H' s' ∧ D.nx σ' H'
  | .brk => ∃ σ' H', Inv X pins σ' H' s' ∧ D.bk σ' H'
  | .cont => ∃ σ' H', Inv X pins σ' H' s' ∧ D.ct σ' H'
  | .ret u => ∃ v σ' H', Inv X pins σ' H' s' ∧ RelV v u ∧ D.rt v H'
def PE (X : Cx) (e : Expr) (t : TE) : Prop :=
  ∀ (pins : List (Addr × Obj)) (s : Shared) (σ : St) (H : Hp) (Q : VK), Inv X pins σ H s → t σ H Q → wpAny (model X.prog X.w) X.A (eval e X.env) (EP X pins σ Q) X.xe s
def PT (X : Cx) (e : Expr) (t : TT) : Prop :=
  ∀ (pins : List (Addr × Obj)) (s : Shared) (σ : St) (H : Hp) (Q : Bool → Hp → Prop), Inv X pins σ H s → t σ H Q → wpAny (model X.prog X.w) X.A (isTrue e X.env (eval e X.env)) (TP X pins σ Q) X.xe s
def PW (X : Cx) (e : Expr) (t : TT) : Prop :=
  ∀ (whole : Sem Value) (pins : List (Addr × Obj)) (s : Shared) (σ : St) (H : Hp) (Q : Bool → Hp → Prop), Inv X pins σ H s → t σ H Q → wpAny (model X.prog X.w) X.A (isTrue e X.env whole) (TP X pins σ Q) X.xe s
theorem PW.pt {X : Cx} {e : Expr} {t : TT} (h : PW X e t) : PT X e t := h _
def PA (X : Cx) (es : List Expr) (t : TA) : Prop :=
  ∀ (pos : Pos) (pins : List (Addr × Obj)) (s : Shared) (σ : St) (H : Hp) (Q : List V → Hp → Prop), Inv X pins σ H s → t σ H Q → wpAny (model X.prog X.w) X.A (spliced (backTo pos (starEach es X.env))) (AP X pins σ Q) X.xe s
def PS (X : Cx) (st : Stmt) (t : TS) : Prop :=
  ∀ (pins : List (Addr × Obj)) (s : Shared) (σ : St) (H : Hp) (D : Ends), Inv X pins σ H s → t D σ H → wpAny (model X.prog X.w) X.A (exec st X.env) (SP X pins D) X.xe s
def PSs (X : Cx) (st : List Stmt) (t : TS) : Prop :=
  ∀ (pins : List (Addr × Obj)) (s : Shared) (σ : St) (H : Hp) (D : Ends), Inv X pins σ H s → t D σ H → wpAny (model X.prog X.w) X.A (execs st X.env) (SP X pins D) X.xe s
theorem thn {α : Type} {t : Sem α} {Q Q' : α → Shared → Prop} {M : Model} {A : Around} {E : Value → Shared → Prop} {s : Shared} (h : wpAny M A t Q E s) (hQ : ∀ a s, Q a s → Q' a s) : wpAny M A t Q' E s := wpAny_mono h hQ fun _ _ x => x
end L2
namespace L2
open PySem PySem.Spec PyProof.Rows
section
variable {X : Cx}
def tVar (i : Nat) : TE := fun σ H Q => ∃ v, σ[i]? = some (some v) ∧ Q v H
def tC (v : V) : TE := fun _ H Q => Q v H
theorem pe_var {i : Nat} {x : Str} {pos : Pos} (hN : X.N[i]? = some x) (hv : Vis X.env.scope x) (hd : (x == ("__debug__" : Str)) = false := by decide) (hcd : (x == ("__classdict__" : Str)) = false := by decide) : PE X (.Name x pos) (tVar i) := by
  intro pins s σ H Q I h
  obtain ⟨v, e, h⟩ := h
  obtain ⟨m, hn, hl⟩ := I.loc
  obtain ⟨u, r, l⟩ := hl i x v hN e hv
  have fin : EP X pins σ Q u s := ⟨v, H, I, r, h⟩
  rcases l with ⟨hk, hm⟩ | ⟨hk, c, hc, hcell⟩
  · exact wpAny_Name (wpAny_loadName_local I.ok.kind hk hn hm fin) hd
  · rcases hk with hk | hk
    · exact wpAny_Name (wpAny_loadName_cell I.ok.kind hk hc hcell fin) hd
    · exact wpAny_Name (wpAny_loadName_free I.ok.kind hk hc hcell fin hcd) hd
theorem pe_int {i j pos} : PE X (.Constant (.int i) j pos) (tC (.int i)) := fun _ _ _ H _ I h => wpAny_Constant_int ⟨.int i, H, I.tok _, ⟨_, rfl⟩, h⟩
theorem pe_bl {b j pos} : PE X (.Constant (.bool b) j pos) (tC (.bl b)) := fun _ _ _ H _ I h => Constant_bool ⟨.bl b, H, I, rfl, h⟩
theorem pe_non {j pos} : PE X (.Constant .none j pos) (tC .non) := fun _ _ _ H _ I h => Constant_none ⟨.non, H, I, rfl, h⟩
theorem pe_str {x j pos} : PE X (.Constant (.str x) j pos) (tC (.str x)) := fun _ _ _ H _ I h => Calls.Constant_str ⟨.str x, H, I.tok _, ⟨_, rfl⟩, h⟩
def Gl (X : Cx) (x : Str) : Prop := X.env.kindOf x = some .globalImplicit
theorem ld_glob {E : Value → Shared → Prop} {pins : List (Addr × Obj)} {s : Shared} {σ : St} {H : Hp} {x : Str} {u : Value} {pos : Pos} {Q : Value → Shared → Prop} (I : Inv X pins σ H s) (hg : Gl X x) (hm : X.mg x = some u) (h : Q u s)
    (hd : (x == ("__debug__" : Str)) = false := by decide) : wpAny (model X.prog X.w) X.A (eval (.Name x pos) X.env) Q E s :=
  Calls.Name_function_global I.ok.kind hg (Calls.loadGlobal_global (by rw [I.ok.glob]; exact I.mod.glob.keeps I.bk) hm h) hd
theorem ld_blt {E : Value → Shared → Prop} {pins : List (Addr × Obj)} {s : Shared} {σ : St} {H : Hp} {x : Str} {u : Value} {pos : Pos} {Q : Value → Shared → Prop} (I : Inv X pins σ H s) (hg : Gl X x) (hm : X.mg x = none) (hv : bootBuiltins x = some u) (h : Q u s)
    (hn : x ≠ "__name__" := by decide) (hd : (x == ("__debug__" : Str)) = false := by decide) : wpAny (model X.prog X.w) X.A (eval (.Name x pos) X.env) Q E s := by
  obtain ⟨mb, h1, h2⟩ := I.mod.blt
  exact Calls.Name_function_global I.ok.kind hg (Calls.loadGlobal_builtin (by rw [I.ok.glob]; exact I.mod.glob.keeps I.bk) hm (by rw [I.ok.blt]; exact h1.keeps I.bk) ((h2 x hn).trans hv) h) hd
theorem pe_glob {x : Str} {v : V} {u : Value} {pos : Pos} (hg : Gl X x) (hm : X.mg x = some u) (r : RelV v u) (hd : (x == ("__debug__" : Str)) = false := by decide) : PE X (.Name x pos) (tC v) :=
  fun _ _ _ H _ I h => ld_glob I hg hm ⟨v, H, I, r, h⟩ hd
theorem pe_bltn {x : Str} {v : V} {u : Value} {pos : Pos} (hg : Gl X x) (hm : X.mg x = none) (hv : bootBuiltins x = some u) (r : RelV v u) (hn : x ≠ "__name__" := by decide) (hd : (x == ("__debug__" : Str)) = false := by decide) : PE X (.Name x pos) (tC v) :=
  fun _ _ _ H _ I h => ld_blt I hg hm hv ⟨v, H, I, r, h⟩ hn hd
variable {a b : Expr} {ta tb : TE} {pos : Pos}
def tB (t : TE) : TT := fun σ H Q => t σ H fun x H1 => ∃ c, x = .bl c ∧ Q c H1
theorem pt_val {e : Expr} {t : TE} (h : PE X e t) (he : ∀ whole, isTrue e X.env whole = (do let v ← whole; standAt e.pos; holding [v] (truthy v)) := by intro _; rfl) : PT X e (tB t) := by
  intro pins s σ H Q I hw
  refine isTrue_plain (thn (h pins s σ H _ I hw) fun v s1 ⟨x, H1, I1, r1, q1⟩ => ?_) (he _)
  obtain ⟨d, rfl, q⟩ := q1
  cases r1
  exact wpAny_truthy_bool ⟨H1, I1, q⟩
variable {tA tB' : TT} {rest : List Expr}
def tAnd (t u : TT) : TT := fun σ H Q => t σ H fun c H1 => if c = true then u σ H1 Q else Q false H1
def tOr (t u : TT) : TT := fun σ H Q => t σ H fun c H1 => if c = true then Q true H1 else u σ H1 Q
def tNot (t : TT) : TT := fun σ H Q => t σ H fun c H1 => Q (!c) H1
theorem pw_and1 (ha : PT X a tA) : PW X (.BoolOp .And [a] pos) tA := by
  intro wh pins s σ H Q I h
  refine isTrue_and (thn (ha pins s σ H Q I h) fun c s1 e => ?_)
  cases c with
  | true => exact isTrue_and_nil e
  | false => exact e
theorem pw_or1 (ha : PT X a tA) : PW X (.BoolOp .Or [a] pos) tA := by
  intro wh pins s σ H Q I h
  refine isTrue_or (thn (ha pins s σ H Q I h) fun c s1 e => ?_)
  cases c with
  | false => exact isTrue_or_nil e
  | true => exact e
theorem pw_and (ha : PT X a tA) (hb : PW X (.BoolOp .And (b :: rest) pos) tB') : PW X (.BoolOp .And (a :: b :: rest) pos) (tAnd tA tB') := by
  intro wh pins s σ H Q I h
  refine isTrue_and (thn (ha pins s σ H _ I h) fun c s1 ⟨H1, I1, q1⟩ => ?_)
  cases c with
  | true => exact hb wh pins s1 σ H1 Q I1 q1
  | false => exact ⟨H1, I1, q1⟩
theorem pw_or (ha : PT X a tA) (hb : PW X (.BoolOp .Or (b :: rest) pos) tB') : PW X (.BoolOp .Or (a :: b :: rest) pos) (tOr tA tB') := by
  intro wh pins s σ H Q I h
  refine isTrue_or (thn (ha pins s σ H _ I h) fun c s1 ⟨H1, I1, q1⟩ => ?_)
  cases c with
  | true => exact ⟨H1, I1, q1⟩
  | false => exact hb wh pins s1 σ H1 Q I1 q1
theorem pt_not (ha : PT X a tA) : PT X (.UnaryOp .Not a pos) (tNot tA) := by
  intro pins s σ H Q I h
  exact isTrue_not (ha pins s σ H (fun c H1 => Q (!c) H1) I h)
def tAndV (ta tb : TE) : TE := fun σ H Q => ta σ H fun x H1 => ∃ c, x = .bl c ∧ if c = true then tb σ H1 Q else Q (.bl false) H1
def tOrV (ta tb : TE) : TE := fun σ H Q => ta σ H fun x H1 => ∃ c, x = .bl c ∧ if c = true then Q (.bl true) H1 else tb σ H1 Q
def tNotV (ta : TE) : TE := fun σ H Q => ta σ H fun x H1 => ∃ c, x = .bl c ∧ Q (.bl (!c)) H1
theorem pe_one {op} {t : TE} (h : PE X a t) : PE X (.BoolOp op [a] pos) t := fun pins s σ H Q I hw => BoolOp_one (h pins s σ H Q I hw)
theorem pe_or (ha : PE X a ta) (hb : PE X (.BoolOp .Or (b :: rest) pos) tb) : PE X (.BoolOp .Or (a :: b :: rest) pos) (tOrV ta tb) := by
  intro pins s σ H Q I h
  refine BoolOp_or (thn (ha pins s σ H _ I h) fun v s1 ⟨x, H1, I1, r1, q1⟩ => ?_)
  obtain ⟨c, rfl, q1⟩ := q1
  cases r1
  refine wpAny_truthy_bool ?_
  cases c with
  | false => exact hb pins s1 σ H1 Q I1 q1
  | true => exact ⟨.bl true, H1, I1, rfl, q1⟩
theorem pe_not (ha : PE X a ta) : PE X (.UnaryOp .Not a pos) (tNotV ta) := by
  intro pins s σ H Q I h
  refine UnaryOp_ (thn (ha pins s σ H _ I h) fun v s1 ⟨x, H1, I1, r1, q1⟩ => ?_)
  obtain ⟨c, rfl, q1⟩ := q1
  cases r1
  exact not_of (wpAny_truthy_bool ⟨.bl (!c), H1, I1, rfl, q1⟩)
def tIf (t : TT) (ta tb : TE) : TE := fun σ H Q => t σ H fun c H1 => if c = true then ta σ H1 Q else tb σ H1 Q
theorem pe_ifExp {c : Expr} (hc : PT X c tA) (ha : PE X a ta) (hb : PE X b tb) : PE X (.IfExp c a b pos) (tIf tA ta tb) := by
  intro pins s σ H Q I h
  refine wpAny_IfExp (thn (hc pins s σ H _ I h) fun d s1 ⟨H1, I1, q1⟩ => ?_)
  cases d with
  | true => exact ha pins s1 σ H1 Q I1 q1
  | false => exact hb pins s1 σ H1 Q I1 q1
end
end L2
namespace L2
open PySem PySem.Spec PyProof.Rows
def SqL (K : PySem.W.Frag) (H : Hp) (a : Addr) (xs : List V) : Prop :=
  Rd H a (.lst xs) ∨
    ∃ (o : Obj) (its : Array Value) (n : Nat), K.lookup a = some o ∧ o.cls = .type "list" ∧ o.dict = none ∧ o.data = .seq its n ∧ its.size ≤ sizeLine ∧ Vals xs its.toList
def SqT (K : PySem.W.Frag) (H : Hp) (a : Addr) (xs : List V) : Prop :=
  Rd H a (.tup xs) ∨
    ∃ (o : Obj) (its : Array Value) (n : Nat), K.lookup a = some o ∧ o.cls = .type "tuple" ∧ o.data = .seq its n ∧ its.size ≤ sizeLine ∧ Vals xs its.toList
def absV : Value → Option V
  | .none => some .non
  | .bool b => some (.bl b)
  | .int i _ => some (.int i)
  | .str x _ => some (.str x)
  | .bytes b _ => some (.byt b)
  | .float b _ => some (.flt b)
  | .ref a => some (.ref a)
  | .type n => some (.ty n)
  | _ => none
theorem RelV.abs {x : V} {u : Value} (r : RelV x u) : absV u = some x := by
  cases x with
  | non => cases r; rfl
  | bl _ => cases r; rfl
  | int _ => obtain ⟨t, rfl⟩ := r; rfl
  | str _ => obtain ⟨t, rfl⟩ := r; rfl
  | byt _ => obtain ⟨t, rfl⟩ := r; rfl
  | flt _ => obtain ⟨t, rfl⟩ := r; rfl
  | ref _ => cases r; rfl
  | ty _ => cases r; rfl
theorem RelV.inj {x y : V} {u : Value} (r : RelV x u) (q : RelV y u) : x = y := Option.some.inj (r.abs.symm.trans q.abs)
theorem Vals.inj : ∀ {xs ys : List V} {us : List Value}, Vals xs us → Vals ys us → xs = ys
  | _, _, _, .nil, .nil => rfl
  | _, _, _, .cons r t, .cons r' t' => by rw [r.inj r', Vals.inj t t']
section
variable {X : Cx} {pins : List (Addr × Obj)} {σ : St} {H : Hp} {s : Shared} {a : Addr} {xs ys : List V}
theorem SqL.of {K : PySem.W.Frag} (h : H a = some (.lst xs)) : SqL K H a xs := .inl (.inl h)
theorem SqT.of {K : PySem.W.Frag} (h : H a = some (.tup xs)) : SqT K H a xs := .inl (.inl h)
theorem Inv.list (I : Inv X pins σ H s) (h : SqL X.K H a xs) : ∃ its : List Value, Vals xs its ∧ PlainL s.heap a its.toArray ∧ xs.length ≤ sizeLine := by
  rcases h with h | ⟨o, its, n, hk, hc, hd, hs, hz, r⟩
  · obtain ⟨z, its, n, r, e⟩ := h.ok I.hok
    exact ⟨its, r, ⟨_, n, e, rfl, rfl, rfl⟩, z⟩
  · refine ⟨its.toList, r, ⟨o, n, I.kIn a o hk, hc, hd, by simpa using hs⟩, ?_⟩
    have e := r.length
    simp only [Array.length_toList] at e
    omega
theorem Inv.tuple (I : Inv X pins σ H s) (h : SqT X.K H a xs) : ∃ its : List Value, Vals xs its ∧ IsTup s.heap a its.toArray ∧ xs.length ≤ sizeLine := by
  rcases h with h | ⟨o, its, n, hk, hc, hs, hz, r⟩
  · obtain ⟨z, its, r, p⟩ := h.ok I.hok
    exact ⟨its, r, p, z⟩
  · refine ⟨its.toList, r, ⟨o, I.kIn a o hk, hc, n, by simpa using hs⟩, ?_⟩
    have e := r.length
    simp only [Array.length_toList] at e
    omega
theorem Inv.list_inj (I : Inv X pins σ H s) (h : SqL X.K H a xs) (h' : SqL X.K H a ys) : xs = ys := by
  obtain ⟨its, r, ⟨o, n, e, _, _, d⟩, _⟩ := I.list h
  obtain ⟨its', r', ⟨o', n', e', _, _, d'⟩, _⟩ := I.list h'
  rw [e] at e'; cases e'
  rw [d] at d'
  injection d' with d1 _
  have : its = its' := by simpa using congrArg Array.toList d1
  subst this
  exact r.inj r'
theorem Inv.tuple_inj (I : Inv X pins σ H s) (h : SqT X.K H a xs) (h' : SqT X.K H a ys) : xs = ys := by
  obtain ⟨its, r, ⟨o, e, _, n, d⟩, _⟩ := I.tuple h
  obtain ⟨its', r', ⟨o', e', _, n', d'⟩, _⟩ := I.tuple h'
  rw [e] at e'; cases e'
  rw [d] at d'
  injection d' with d1 _
  have : its = its' := by simpa using congrArg Array.toList d1
  subst this
  exact r.inj r'
end
abbrev Cx.wish (X : Cx) (E : Value → Shared → Prop) : Cx := { X with xe := E }
abbrev Cx.nox (X : Cx) : Cx := X.wish fun _ _ => False
theorem Cx.Ok.wish {X : Cx} (ok : X.Ok) (E : Value → Shared → Prop) : (X.wish E).Ok :=
  ⟨ok.mod, ok.kind, ok.glob, ok.blt, ok.above, ok.inj, ok.has, ok.cab, ok.hd, ok.frames, ok.stk, ok.exf, ok.bs, ok.bsz, ok.noex, ok.exfs, ok.funs, ok.frf⟩
theorem Cx.Ok.unwish {X : Cx} {E : Value → Shared → Prop} (ok : (X.wish E).Ok) : X.Ok :=
  ⟨ok.mod, ok.kind, ok.glob, ok.blt, ok.above, ok.inj, ok.has, ok.cab, ok.hd, ok.frames, ok.stk, ok.exf, ok.bs, ok.bsz, ok.noex, ok.exfs, ok.funs, ok.frf⟩
section
variable {X : Cx} {pins : List (Addr × Obj)} {σ : St} {H : Hp} {s : Shared} {E : Value → Shared → Prop}
theorem Inv.wish (I : Inv X pins σ H s) (E : Value → Shared → Prop) : Inv (X.wish E) pins σ H s := ⟨I.ok.wish E, I.os, I.bare, I.base, I.loc, I.cell, I.free, I.freeC, I.pin, I.hok, I.len⟩
theorem Inv.unwish (I : Inv (X.wish E) pins σ H s) : Inv X pins σ H s := ⟨I.ok.unwish, I.os, I.bare, I.base, I.loc, I.cell, I.free, I.freeC, I.pin, I.hok, I.len⟩
theorem SP.unwish {D : Ends} {f : Flow} {s' : Shared} (h : SP (X.wish E) pins D f s') : SP X pins D f s' := by
  cases f with
  | next => obtain ⟨σ', H', I, q⟩ := h; exact ⟨σ', H', I.unwish, q⟩
  | brk => obtain ⟨σ', H', I, q⟩ := h; exact ⟨σ', H', I.unwish, q⟩
  | cont => obtain ⟨σ', H', I, q⟩ := h; exact ⟨σ', H', I.unwish, q⟩
  | ret u => obtain ⟨v, σ', H', I, r, q⟩ := h; exact ⟨v, σ', H', I.unwish, r, q⟩
theorem PE.nox {e : Expr} {t : TE} (h : PE X.nox e t) : PE X e t := fun pins s σ H Q I hw =>
  wpAny_mono (h pins s σ H Q (I.wish _) hw) (fun _ _ ⟨v, H', I', r, q⟩ => ⟨v, H', I'.unwish, r, q⟩) fun _ _ z => False.elim z
theorem PT.nox {e : Expr} {t : TT} (h : PT X.nox e t) : PT X e t := fun pins s σ H Q I hw =>
  wpAny_mono (h pins s σ H Q (I.wish _) hw) (fun _ _ ⟨H', I', q⟩ => ⟨H', I'.unwish, q⟩) fun _ _ z => False.elim z
theorem PSs.nox {st : List Stmt} {t : TS} (h : PSs X.nox st t) : PSs X st t := fun pins s σ H D I hw =>
  wpAny_mono (h pins s σ H D (I.wish _) hw) (fun _ _ q => q.unwish) fun _ _ z => False.elim z
end
section
variable {X : Cx} {st : Stmt} {rest : List Stmt} {t u : TS} {e : Expr} {te : TE} {pos : Pos}
def tNext : TS := fun D σ H => D.nx σ H
def tSeq (t u : TS) : TS := fun D σ H => t { D with nx := u D } σ H
theorem pss_nil : PSs X [] tNext := fun _ _ σ H _ I h => wpAny_execs_nil ⟨σ, H, I, h⟩
theorem pss_cons (h1 : PS X st t) (h2 : PSs X rest u) : PSs X (st :: rest) (tSeq t u) := by
  intro pins s σ H D I h
  refine wpAny_execs_cons (thn (h1 pins s σ H { D with nx := u D } I h) fun f s1 q => ?_)
  cases f with
  | next =>
    obtain ⟨σ', H', I', q⟩ := q
    exact h2 pins s1 σ' H' D I' q
  | ret v => exact q
  | brk => exact q
  | cont => exact q
theorem pss_one (h1 : PS X st t) : PSs X [st] t := by
  intro pins s σ H D I h
  refine wpAny_execs_cons (thn (h1 pins s σ H D I h) fun f s1 q => ?_)
  cases f with
  | next => exact wpAny_execs_nil q
  | ret v => exact q
  | brk => exact q
  | cont => exact q
theorem Inv.quiet {pins : List (Addr × Obj)} {σ : St} {H : Hp} {s : Shared} (I : Inv X pins σ H s) : interactive X.env = false := by simp [interactive, I.ok.kind]
def tDrop (te : TE) : TS := fun D σ H => te σ H fun _ H1 => D.nx σ H1
theorem ps_expr (he : PE X e te) (hs : swapsWith e none pos.line X.env = pure false := by rfl) : PS X (.Expr e pos) (tDrop te) := by
  intro pins s σ H D I h
  exact wpAny_Expr_any (thn (he pins s σ H _ I h) fun v s1 ⟨x, H1, I1, r1, q1⟩ => ⟨σ, H1, I1, q1⟩) I.quiet hs
def tRet (te : TE) : TS := fun D σ H => te σ H D.rt
theorem ps_ret (he : PE X e te) : PS X (.Return (some e) pos) (tRet te) := by
  intro pins s σ H D I h
  exact wpAny_Return_some (thn (he pins s σ H _ I h) fun v s1 ⟨x, H1, I1, r1, q1⟩ => ⟨x, σ, H1, I1, r1, q1⟩)
def tRetN : TS := fun D _ H => D.rt .non H
def tIfS (c : TT) (t u : TS) : TS := fun D σ H => c σ H fun b H1 => if b = true then t D σ H1 else u D σ H1
theorem ps_if {c : Expr} {a b : List Stmt} {tc : TT} (hc : PT X c tc) (ha : PSs X a t) (hb : PSs X b u) : PS X (.If c a b pos) (tIfS tc t u) := by
  intro pins s σ H D I h
  refine wpAny_If (thn (hc pins s σ H _ I h) fun d s1 ⟨H1, I1, q1⟩ => ?_)
  cases d with
  | true => exact ha pins s1 σ H1 D I1 q1
  | false => exact hb pins s1 σ H1 D I1 q1
def tNever : TS := fun _ _ _ => False
end
abbrev TG := V → St → Hp → (St → Hp → Prop) → Prop
abbrev TGs := List V → St → Hp → (St → Hp → Prop) → Prop
def PG (X : Cx) (target : Expr) (t : TG) : Prop :=
  ∀ (pins : List (Addr × Obj)) (s : Shared) (σ : St) (H : Hp) (v : V) (u : Value) (Q : St → Hp → Prop), Inv X pins σ H s → RelV v u → t v σ H Q →
    wpAny (model X.prog X.w) X.A (assign target X.env u) (fun _ s' => ∃ σ' H', Inv X pins σ' H' s' ∧ Q σ' H') X.xe s
def PGs (X : Cx) (ts : List Expr) (t : TGs) : Prop :=
  ∀ (pins : List (Addr × Obj)) (s : Shared) (σ : St) (H : Hp) (vs : List V) (us : List Value) (Q : St → Hp → Prop), Inv X pins σ H s → Vals vs us → t vs σ H Q →
    wpAny (model X.prog X.w) X.A (assignInOrder ((assignEach ts X.env).map (·.2)) us) (fun _ s' => ∃ σ' H', Inv X pins σ' H' s' ∧ Q σ' H') X.xe s
abbrev TSet := V → V → V → Hp → (Hp → Prop) → Prop
section
variable {X : Cx} {pos : Pos}
def gName (i : Nat) : TG := fun v σ H Q => Q (σ.set i (some v)) H
theorem pg_name {i : Nat} {x : Str} (hN : X.N.Nodup) (hi : X.N[i]? = some x) (hx : Loc X.env.scope x) (hf : X.fn x = true ∨ X.env.scope.names.lookup x = some .local := by first | exact .inl rfl | exact .inr rfl | assumption) : PG X (.Name x pos) (gName i) := by
  intro pins s σ H v u Q I r h
  exact wpAny_assign_Name (store_ok I hN hi hx r (fun s' I' => ⟨_, H, I', h⟩) hf)
def gNil : TGs := fun vs σ H Q => vs = [] ∧ Q σ H
def gCons (t : TG) (u : TGs) : TGs := fun vs σ H Q => ∃ v r, vs = v :: r ∧ t v σ H fun σ' H' => u r σ' H' Q
theorem pgs_nil : PGs X [] gNil := by
  intro pins s σ H vs us Q I r h
  obtain ⟨e, h⟩ := h
  subst e
  cases r
  exact assignInOrder_nil ⟨σ, H, I, h⟩
theorem pgs_cons {e : Expr} {es : List Expr} {t : TG} {u : TGs} (h1 : PG X e t) (h2 : PGs X es u)
    (hs : (assignEach (e :: es) X.env).map (·.2) = assign e X.env :: (assignEach es X.env).map (·.2) := by rfl) : PGs X (e :: es) (gCons t u) := by
  intro pins s σ H vs us Q I r h
  obtain ⟨v, vr, e1, h⟩ := h
  subst e1
  cases r with
  | cons r rr =>
    rw [hs]
    refine assignInOrder_cons (thn (h1 pins s σ H _ _ _ I r h) fun _ s1 ⟨σ1, H1, I1, q1⟩ => ?_)
    exact h2 pins s1 σ1 H1 _ _ Q I1 rr q1
def gTup (K : PySem.W.Frag) (n : Nat) (t : TGs) : TG := fun v σ H Q => ∃ a xs, v = .ref a ∧ SqT K H a xs ∧ xs.length = n ∧ t xs σ H Q
theorem pg_tup {es : List Expr} {k : Nat} {t : TGs} {n : Nat} (hc : X.calm = true) (h : PGs X es t)
    (hn : (assignEach es X.env).length = n := by rfl) (hst : (assignEach es X.env).findIdx? (·.1) = none := by rfl) : PG X (.Tuple es k pos) (gTup X.K n t) := by
  intro pins s σ H v u Q I r hw
  obtain ⟨a, xs, e1, hq, hl, hw⟩ := hw
  subst e1
  cases r
  obtain ⟨its, rv, ht, hz⟩ := I.tuple hq
  refine assign_Tuple_tuple (I.ok.hd hc) ht (by simp [hn, ← hl, rv.length]) hst fun h' hx => ?_
  have I1 : Inv X pins σ H { s with heap := h' } := I.kept (t' := s.toks) fun b o e => hx b o (Nat.ne_of_lt (Heap.lt_size e)) e
  exact h pins _ σ H xs _ Q I1 (by simpa using rv) hw
def gSub (to ti : TE) (t : TSet) : TG := fun v σ H Q => to σ H fun o H1 => ti σ H1 fun i H2 => t o i v H2 fun H3 => Q σ H3
def tAsg (te : TE) (g : TG) : TS := fun D σ H => te σ H fun x H1 => g x σ H1 D.nx
theorem ps_set {i : Nat} {x : Str} {e : Expr} {te : TE} {pos' : Pos} (hN : X.N.Nodup) (hi : X.N[i]? = some x) (hx : Loc X.env.scope x) (he : PE X e te) (hs : swapsWith e (some (.Name x pos')) pos.line X.env = pure false := by rfl) (hf : X.fn x = true ∨ X.env.scope.names.lookup x = some .local := by first | exact .inl rfl | exact .inr rfl | assumption) :
    PS X (.Assign [.Name x pos'] e pos) (tAsg te (gName i)) := by
  intro pins s σ H D I h
  refine wpAny_Assign_Name (thn (he pins s σ H _ I h) fun v s1 ⟨y, H1, I1, r1, q1⟩ => ?_) hs
  exact store_ok I1 hN hi hx r1 (fun s2 I2 => ⟨_, H1, I2, q1⟩) hf
end
section
variable {X : Cx} {pos : Pos}
end
structure It where
  go : Nat → Hp → Prop
  yld : Nat → Hp → V → Hp → Prop
  stop : Nat → Hp → Prop
def FpOk (X : Cx) (pins : List (Addr × Obj)) (H : Hp) (b : Addr) : Prop :=
  H b = none ∧ b ≠ X.env.locals ∧ b ∉ X.fs ∧ (b ∈ X.ex ∨ X.s₀.heap.objs.size ≤ b) ∧ (∀ x c, X.env.cells.lookup x = some c → c ≠ b) ∧ ∀ p ∈ X.pn ++ pins, p.1 ≠ b
theorem Inv.fpOk {X : Cx} {pins : List (Addr × Obj)} {σ : St} {H H' : Hp} {s : Shared} {b : Addr} (I : Inv X pins σ H s) (hb : s.heap.objs.size ≤ b) (hn : H' b = none) : FpOk X pins H' b := by
  refine ⟨hn, Nat.ne_of_gt (Nat.lt_of_lt_of_le I.lt hb), I.nofs hb, .inr (Nat.le_trans I.sz hb), fun x c e z => ?_, fun p hp z => ?_⟩
  · obtain ⟨v, q⟩ := I.cell x c e
    exact absurd (Nat.lt_of_lt_of_le q.lt (by rw [z]; exact hb)) (Nat.lt_irrefl _)
  · exact absurd (Nat.lt_of_lt_of_le (Heap.lt_size (I.pin p hp).1) (by rw [z]; exact hb)) (Nat.lt_irrefl _)
structure Turn (P : Program) (w : World) (K : PySem.W.Frag) (tg : Expr) (J : It) (fp : List Addr) (it : Addr) (tn : Nat → Heap → Prop) : Prop where
  mem : it ∈ fp
  obj : ∀ i h, tn i h → ∀ b ∈ fp, ∃ o, h.get? b = some o ∧ ∀ v, o.data ≠ .cell v
  keep : ∀ i h h', tn i h → (∀ b ∈ fp, ∀ o, h.get? b = some o → h'.get? b = some o) → tn i h'
  item : ∀ (X : Cx), X.prog = P → X.w = w → X.K = K → X.calm = true → ∀ (i : Nat) (pins : List (Addr × Obj)) (s : Shared) (σ : St) (H : Hp) (E : Value → Shared → Prop), Inv X pins σ H s → (∀ b ∈ fp, FpOk X pins H b) → tn i s.heap → J.go i H →
    wpAny (model P w) X.A (pyNext (.ref it)) (fun r s1 => ∃ u, r = some u ∧
      wpAny (model P w) X.A (letOwnedTupleGo tg (.ref it) u) (fun _ s2 => ∃ x H', Inv X pins σ H' s2 ∧ RelV x u ∧ J.yld i H x H' ∧ tn (i + 1) s2.heap ∧ ∀ b ∈ fp, H' b = none) E s1) E s
  done : ∀ (X : Cx), X.prog = P → X.w = w → X.K = K → X.calm = true → ∀ (i : Nat) (pins : List (Addr × Obj)) (s : Shared) (σ : St) (H : Hp) (E : Value → Shared → Prop), Inv X pins σ H s → (∀ b ∈ fp, FpOk X pins H b) → tn i s.heap → J.stop i H →
    wpAny (model P w) X.A (pyNext (.ref it)) (fun r s1 => r = none ∧ Inv X pins σ H s1) E s
  self : ∀ (A : Around) (i : Nat) (s : Shared) (Q : Value → Shared → Prop) (E : Value → Shared → Prop), tn i s.heap → Q (.ref it) s → wpAny (model P w) A (pyIter (.ref it)) Q E s
abbrev TI := St → Hp → (It → Hp → Prop) → Prop
def PIE (X : Cx) (pins : List (Addr × Obj)) (σ : St) (tg : Expr) (R : It → Hp → Prop) (itv : Value) (s2 : Shared) : Prop :=
  ∃ (it : Addr) (fp : List Addr) (tn : Nat → Heap → Prop) (J : It) (H' : Hp), itv = .ref it ∧ Inv X pins σ H' s2 ∧ Turn X.prog X.w X.K tg J fp it tn ∧ tn 0 s2.heap ∧ (∀ b ∈ fp, FpOk X pins H' b) ∧ R J H'
def PI (X : Cx) (tg iter : Expr) (wi : TI) : Prop :=
  ∀ (pins : List (Addr × Obj)) (s : Shared) (σ : St) (H : Hp) (R : It → Hp → Prop), Inv X pins σ H s → wi σ H R →
    wpAny (model X.prog X.w) X.A (eval iter X.env) (fun v s1 => wpAny (model X.prog X.w) X.A (pyIter v) (PIE X pins σ tg R) X.xe s1) X.xe s
theorem go_of {M : Model} {A : Around} {E : Value → Shared → Prop} {s : Shared} {tg : Expr} {it : Addr} {u : Value} {o : Obj} {n : String} {vs : Array Value} {Q : Unit → Shared → Prop} (ho : s.heap.get? it = some o) (hc : o.cls = .type n) (hd : o.data = .fields vs)
    (hn : ["enumerate", "zip", "dict_itemiterator", "dict_reverseitemiterator", "odict_iterator", "itertools.zip_longest", "itertools.pairwise"].contains n = false) (hQ : Q () s) : wpAny M A (letOwnedTupleGo tg (.ref it) u) Q E s := by
  unfold letOwnedTupleGo
  cases tg <;> first
    | exact wpAny_pure hQ
    | (cases u <;> first
        | exact wpAny_pure hQ
        | (refine wpAny_bind (wpAny_load ho ?_)
           rw [hc, hd]
           show wpAny M A (if (["enumerate", "zip", "dict_itemiterator", "dict_reverseitemiterator", "odict_iterator", "itertools.zip_longest", "itertools.pairwise"].contains n && vs[0]? == some (rawInt _)) = true then _ else _) Q E s
           rw [if_neg (by intro h; rw [hn, Bool.false_and] at h; cases h)]
           exact wpAny_pure hQ))
def Itl (K : PySem.W.Frag) (a : Addr) : It :=
  ⟨fun i H => ∃ xs x, SqL K H a xs ∧ xs[i]? = some x, fun i H x H' => H' = H ∧ ∀ xs, SqL K H a xs → xs[i]? = some x, fun i H => ∃ xs, SqL K H a xs ∧ xs.length ≤ i⟩
def Itt (K : PySem.W.Frag) (a : Addr) : It :=
  ⟨fun i H => ∃ xs x, SqT K H a xs ∧ xs[i]? = some x, fun i H x H' => H' = H ∧ ∀ xs, SqT K H a xs → xs[i]? = some x, fun i H => ∃ xs, SqT K H a xs ∧ xs.length ≤ i⟩
def Itr (lo : Int) (n : Nat) : It := ⟨fun i _ => i < n, fun i H x H' => H' = H ∧ x = .int (lo + i), fun i _ => n ≤ i⟩
theorem turn_list {P : Program} {w : World} {K : PySem.W.Frag} {tg : Expr} (a it : Addr) : Turn P w K tg (Itl K a) [it] it (fun i h => h.IsListIter it a i) where
  mem := by simp
  obj := fun i h st b hb => by
    have e : b = it := by simpa using hb
    subst e
    obtain ⟨o, e, c, d⟩ := st
    exact ⟨o, e, fun v z => by rw [d] at z; cases z⟩
  keep := fun i h h' st k => st.at fun o e => k it (by simp) o e
  item := by
    intro X hP hw hK hc i pins s σ H E I hf st hg
    subst hP hw hK
    obtain ⟨xs, x, hq, hx⟩ := hg
    obtain ⟨its, rv, p, hz⟩ := I.list hq
    obtain ⟨u, hu, ru⟩ := rv.get hx
    obtain ⟨f0, f1, f2, f3, f4, f5⟩ := hf it (by simp)
    refine wpAny_pyNext_list_item st p.isList (x := u) (by simpa using hu) fun h' st' sb => ?_
    have I1 : Inv X pins σ H { s with heap := h' } := I.turned (t' := s.toks) (fun b o hb e => (sb.2 b hb).trans e) f0 f1 f3 f4 f5
    obtain ⟨o, e, c, d⟩ := id st'
    exact ⟨u, rfl, go_of (s := { s with heap := h' }) e c d (by decide) ⟨x, H, I1, ru, ⟨rfl, fun ys hy => by rw [I.list_inj hy hq]; exact hx⟩, st', fun b hb => (hf b hb).1⟩⟩
  done := by
    intro X hP hw hK hc i pins s σ H E I hf st hg
    subst hP hw hK
    obtain ⟨xs, hq, hx⟩ := hg
    obtain ⟨its, rv, p, hz⟩ := I.list hq
    obtain ⟨f0, f1, f2, f3, f4, f5⟩ := hf it (by simp)
    have hl := rv.length
    exact wpAny_pyNext_list_end (I.ok.hd hc) st p.isList (by simp; omega) fun h' eb => ⟨rfl, I.turned (t' := s.toks) (fun b o hb e => eb b o hb e) f0 f1 f3 f4 f5⟩
  self := fun _ _ _ _ _ st h => wpAny_pyIter_listiter st h
theorem turn_tuple {P : Program} {w : World} {K : PySem.W.Frag} {tg : Expr} (a it : Addr) : Turn P w K tg (Itt K a) [it] it (fun i h => h.IsTupleIter it a i) where
  mem := by simp
  obj := fun i h st b hb => by
    have e : b = it := by simpa using hb
    subst e
    obtain ⟨o, e, c, d⟩ := st
    exact ⟨o, e, fun v z => by rw [d] at z; cases z⟩
  keep := fun i h h' st k => st.at fun o e => k it (by simp) o e
  item := by
    intro X hP hw hK hc i pins s σ H E I hf st hg
    subst hP hw hK
    obtain ⟨xs, x, hq, hx⟩ := hg
    obtain ⟨its, rv, p, hz⟩ := I.tuple hq
    obtain ⟨u, hu, ru⟩ := rv.get hx
    obtain ⟨f0, f1, f2, f3, f4, f5⟩ := hf it (by simp)
    refine wpAny_pyNext_tuple_item st (show s.heap.IsTuple a its.toArray from p) (x := u) (by simpa using hu) fun h' st' sb => ?_
    have I1 : Inv X pins σ H { s with heap := h' } := I.turned (t' := s.toks) (fun b o hb e => (sb.2 b hb).trans e) f0 f1 f3 f4 f5
    obtain ⟨o, e, c, d⟩ := id st'
    exact ⟨u, rfl, go_of (s := { s with heap := h' }) e c d (by decide) ⟨x, H, I1, ru, ⟨rfl, fun ys hy => by rw [I.tuple_inj hy hq]; exact hx⟩, st', fun b hb => (hf b hb).1⟩⟩
  done := by
    intro X hP hw hK hc i pins s σ H E I hf st hg
    subst hP hw hK
    obtain ⟨xs, hq, hx⟩ := hg
    obtain ⟨its, rv, p, hz⟩ := I.tuple hq
    obtain ⟨f0, f1, f2, f3, f4, f5⟩ := hf it (by simp)
    have hl := rv.length
    exact wpAny_pyNext_tuple_end (I.ok.hd hc) st (show s.heap.IsTuple a its.toArray from p) (by simp; omega) fun h' eb => ⟨rfl, I.turned (t' := s.toks) (fun b o hb e => eb b o hb e) f0 f1 f3 f4 f5⟩
  self := fun _ _ _ _ _ st h => wpAny_pyIter_tupleiter st h
theorem turn_range {P : Program} {w : World} {K : PySem.W.Frag} {tg : Expr} (it : Addr) (lo : Int) (n : Nat) : Turn P w K tg (Itr lo n) [it] it (fun i h => IsRangeIter h it (lo + (i : Nat) * 1) ((n : Int) - (i : Nat)) 1) where
  mem := by simp
  obj := fun i h st b hb => by
    have e : b = it := by simpa using hb
    subst e
    exact ⟨_, st, fun v z => by
      have z' : Data.fields _ = Data.cell v := z
      cases z'⟩
  keep := fun i h h' st k => k it (by simp) _ st
  item := by
    intro X hP hw hK hc i pins s σ H E I hf st hg
    subst hP hw hK
    obtain ⟨f0, f1, f2, f3, f4, f5⟩ := hf it (by simp)
    have W := Walks.range (prog := X.prog) (w := X.w) (I.ok.hd hc) it lo 1 n
    refine W.item i s _ _ hg st fun v h' tk hv st' kk => ?_
    obtain ⟨t, rfl⟩ := hv
    have I1 : Inv X pins σ H { s with heap := h', toks := tk } := I.turned (fun b o hb e => kk b o (by simpa using hb) e) f0 f1 f3 f4 f5
    refine ⟨_, rfl, go_of (s := { s with heap := h', toks := tk }) (n := "range_iterator") st' rfl rfl (by decide) ⟨.int (lo + i), H, I1, ⟨t, ?_⟩, ⟨rfl, rfl⟩, st', fun b hb => (hf b hb).1⟩⟩
    rw [Int.mul_one]
  done := by
    intro X hP hw hK hc i pins s σ H E I hf st hg
    subst hP hw hK
    obtain ⟨f0, f1, f2, f3, f4, f5⟩ := hf it (by simp)
    exact wpAny_pyNext_range_end (I.ok.hd hc) st (by have : n ≤ i := hg; omega) fun h' eb => ⟨rfl, I.turned (t' := s.toks) (fun b o hb e => eb b o hb e) f0 f1 f3 f4 f5⟩
  self := fun _ _ _ _ _ st h => wpAny_pyIter_rangeiter st h
end L2
namespace L2
open PySem PySem.Spec PyProof.Rows
section
variable {X : Cx} {tg : Expr}
def iList (K : PySem.W.Frag) (tl : TE) : TI := fun σ H R => tl σ H fun x H1 => ∃ a, x = .ref a ∧ (∃ xs, SqL K H1 a xs) ∧ R (Itl K a) H1
def iTup (K : PySem.W.Frag) (tl : TE) : TI := fun σ H R => tl σ H fun x H1 => ∃ a, x = .ref a ∧ (∃ xs, SqT K H1 a xs) ∧ R (Itt K a) H1
theorem pi_list {l : Expr} {tl : TE} (hl : PE X l tl) : PI X tg l (iList X.K tl) := by
  intro pins s σ H R I h
  refine thn (hl pins s σ H _ I h) fun v s1 ⟨x, H1, I1, r1, q1⟩ => ?_
  obtain ⟨a, e, ⟨xs, hq⟩, q⟩ := q1
  subst e
  cases r1
  obtain ⟨its, rv, p, hz⟩ := I1.list hq
  refine wpAny_pyIter_list p.isList ?_
  refine ⟨s1.heap.objs.size, [s1.heap.objs.size], _, _, H1, rfl, I1.kept (t' := s1.toks) fun b o e => Heap.get?_push_of_some _ e, turn_list a _, ⟨_, Heap.get?_push_size _ rfl, rfl, rfl⟩, fun b hb => ?_, q⟩
  have e : b = s1.heap.objs.size := by simpa using hb
  subst e
  exact I1.fpOk (Nat.le_refl _) (I1.hok.fresh (Nat.le_refl _))
theorem pi_tup {l : Expr} {tl : TE} (hl : PE X l tl) : PI X tg l (iTup X.K tl) := by
  intro pins s σ H R I h
  refine thn (hl pins s σ H _ I h) fun v s1 ⟨x, H1, I1, r1, q1⟩ => ?_
  obtain ⟨a, e, ⟨xs, hq⟩, q⟩ := q1
  subst e
  cases r1
  obtain ⟨its, rv, p, hz⟩ := I1.tuple hq
  refine wpAny_pyIter_tuple (show s1.heap.IsTuple a its.toArray from p) ?_
  refine ⟨s1.heap.objs.size, [s1.heap.objs.size], _, _, H1, rfl, I1.kept (t' := s1.toks) fun b o e => Heap.get?_push_of_some _ e, turn_tuple a _, ⟨_, Heap.get?_push_size _ rfl, rfl, rfl⟩, fun b hb => ?_, q⟩
  have e : b = s1.heap.objs.size := by simpa using hb
  subst e
  exact I1.fpOk (Nat.le_refl _) (I1.hok.fresh (Nat.le_refl _))
theorem range_it {pins : List (Addr × Obj)} {σ : St} {H : Hp} {s : Shared} {R : It → Hp → Prop} {E : Value → Shared → Prop} {lo hi : Int} {t u v : Tok} {tk : Nat} (I : Inv X pins σ H s) (h1 : -(2 ^ 62) ≤ lo) (h2 : lo < 2 ^ 62) (h3 : -(2 ^ 62) ≤ hi) (h4 : hi < 2 ^ 62)
    (q : R (Itr lo (hi - lo).toNat) H) : wpAny (model X.prog X.w) X.A (pyIter (.ref s.heap.objs.size)) (PIE X pins σ tg R) E { s with heap := s.heap.push { cls := .type "range", data := .fields #[.int lo t, .int hi u, .int 1 v] }, toks := tk } := by
  refine wpAny_pyIter_range (IsRange.new ..) (small_one h1 h2 h3 h4) ?_
  have I1 : Inv X pins σ H { s with heap := s.heap.push { cls := .type "range", data := .fields #[.int lo t, .int hi u, .int 1 v] }, toks := tk } := I.kept fun b o e => Heap.get?_push_of_some _ e
  refine ⟨(s.heap.push { cls := .type "range", data := .fields #[.int lo t, .int hi u, .int 1 v] }).objs.size, [(s.heap.push { cls := .type "range", data := .fields #[.int lo t, .int hi u, .int 1 v] }).objs.size], _, _, H, rfl,
    I1.kept (t' := tk) fun b o e => Heap.get?_push_of_some _ e, turn_range _ lo (hi - lo).toNat, ?_, fun b hb => ?_, q⟩
  · have e1 : lo + ((0 : Nat) : Int) * 1 = lo := by simp
    have e2 : (((hi - lo).toNat : Nat) : Int) - ((0 : Nat) : Int) = Builtin.Range.rangeSize lo hi 1 := by rw [rangeSize_one]; split <;> omega
    show IsRangeIter _ _ (lo + ((0 : Nat) : Int) * 1) ((((hi - lo).toNat : Nat) : Int) - ((0 : Nat) : Int)) 1
    rw [e1, e2]
    exact Heap.get?_push_size _ rfl
  · have e : b = (s.heap.push { cls := .type "range", data := .fields #[.int lo t, .int hi u, .int 1 v] }).objs.size := by simpa using hb
    subst e
    exact I1.fpOk (Nat.le_refl _) (I1.hok.fresh (Nat.le_refl _))
def iRng1 (ta : TA) : TI := fun σ H R => ta σ H fun vs H1 => ∃ j : Int, vs = [.int j] ∧ -(2 ^ 62) ≤ j ∧ j < 2 ^ 62 ∧ R (Itr 0 j.toNat) H1
def iRng2 (ta : TA) : TI := fun σ H R => ta σ H fun vs H1 => ∃ i j : Int, vs = [.int i, .int j] ∧ (-(2 ^ 62) ≤ i ∧ i < 2 ^ 62 ∧ -(2 ^ 62) ≤ j ∧ j < 2 ^ 62) ∧ R (Itr i (j - i).toNat) H1
theorem pi_range1 {a : Expr} {ta : TA} {p pos : Pos} (hg : Gl X "range") (hm : X.mg "range" = none) (ha : PA X [a] ta) (hs : starEach [a] X.env = [(false, eval a X.env)] := by rfl) : PI X tg (.Call (.Name "range" p) [a] [] pos) (iRng1 ta) := by
  intro pins s σ H R I h
  refine Call_ (ld_blt I hg hm boot_range (PyProof.Rows.callWith_type1 (thn (ha pos pins s σ H _ I h) fun us s1 ⟨vs, H1, I1, r1, q1⟩ => ?_) hs rfl))
  obtain ⟨j, e, q1, q2, q⟩ := q1
  subst e
  cases r1 with
  | cons r rr =>
    cases rr
    obtain ⟨t, rfl⟩ := r
    exact call_range_1 (range_it I1 (by omega) (by omega) q1 q2 (by simpa using q))
def tFor (wi : TI) (g : TG) (tb : TS) : TS := fun D σ H => wi σ H fun J H1 => ∃ W : Nat → Nat → St → Hp → Prop, (∃ m, W 0 m σ H1) ∧ ∀ i m σ H, W i m σ H →
  (J.stop i H ∧ D.nx σ H) ∨ (J.go i H ∧ ∃ N : St → Hp → Prop, (∀ σ' H', N σ' H' → ∃ m', m' < m ∧ W (i + 1) m' σ' H') ∧ ∀ x H', J.yld i H x H' → g x σ H' fun σ2 H2 => tb { D with nx := N, ct := N, bk := D.nx } σ2 H2)
def pinsAt (fp : List Addr) (h : Heap) : List (Addr × Obj) := fp.filterMap fun b => (h.get? b).map fun o => (b, o)
theorem mem_pinsAt {fp : List Addr} {h : Heap} {b : Addr} {o : Obj} (hb : b ∈ fp) (e : h.get? b = some o) : (b, o) ∈ pinsAt fp h := List.mem_filterMap.mpr ⟨b, hb, by rw [e]; rfl⟩
theorem of_pinsAt {fp : List Addr} {h : Heap} {p : Addr × Obj} (hp : p ∈ pinsAt fp h) : p.1 ∈ fp ∧ h.get? p.1 = some p.2 := by
  obtain ⟨b, hb, e⟩ := List.mem_filterMap.mp hp
  cases q : h.get? b with
  | none => rw [q] at e; cases e
  | some o =>
    rw [q] at e
    have e' : (b, o) = p := Option.some.inj e
    subst e'
    exact ⟨hb, q⟩
theorem Inv.pinned {pins : List (Addr × Obj)} {σ : St} {H : Hp} {s : Shared} {fp : List Addr} (I : Inv X pins σ H s) (hf : ∀ b ∈ fp, FpOk X pins H b) (ho : ∀ b ∈ fp, ∃ o, s.heap.get? b = some o ∧ ∀ v, o.data ≠ .cell v) : Inv X (pins ++ pinsAt fp s.heap) σ H s :=
  I.pins_of fun p hp => (List.mem_append.mp hp).elim (fun z => I.pin p (List.mem_append_right _ z)) fun z => by
    obtain ⟨hb, e⟩ := of_pinsAt z
    obtain ⟨f0, f1, f2, _⟩ := hf p.1 hb
    obtain ⟨o, e', d⟩ := ho p.1 hb
    rw [e] at e'; cases e'
    exact ⟨e, f0, f1, f2, d⟩
theorem Inv.unpinned {pins pl : List (Addr × Obj)} {σ : St} {H : Hp} {s : Shared} (I : Inv X (pins ++ pl) σ H s) : Inv X pins σ H s := I.pins_of fun p hp => I.pin p (List.mem_append_right _ (List.mem_append_left _ hp))
theorem ps_for {iter : Expr} {body : List Stmt} {wi : TI} {g : TG} {tb : TS} {pos : Pos} (hp : PassesOwn (model X.prog X.w) X.A X.env X.xe) (hc : X.calm = true) (hi : PI X tg iter wi) (hg : PG X tg g) (hb : PSs X body tb)
    (hs : ∀ x, foldedSetIterable iter X.env x = pure x := by intro _; rfl) : PS X (.For tg iter body [] pos) (tFor wi g tb) := by
  intro pins s σ H D I h
  refine wpAny_For (thn (hi pins s σ H _ I h) fun v s1 h1 => thn h1 fun itv s2 h2 => ?_) hs
  obtain ⟨it, fp, tn, J, H2, e, I2, T, st2, f2, W, ⟨m0, w0⟩, turn⟩ := h2
  subst e
  have stat : ∀ {H' : Hp}, (∀ b ∈ fp, H' b = none) → ∀ b ∈ fp, FpOk X pins H' b := fun hn b hb => ⟨hn b hb, (f2 b hb).2⟩
  refine codeAny_forLoop_any (fun n s' => ∃ i σ' H', Inv X pins σ' H' s' ∧ tn i s'.heap ∧ (∀ b ∈ fp, H' b = none) ∧ W i n σ' H') ?_ m0 ⟨0, σ, H2, I2, st2, fun b hb => (f2 b hb).1, w0⟩
  rintro n s3 ⟨i, σ3, H3, I3, st3, fr3, w3⟩
  rcases turn i n σ3 H3 w3 with ⟨stop, qn⟩ | ⟨go, N, hN, step⟩
  · refine wpAny_passesOwn hp (thn (T.done X rfl rfl rfl hc i pins s3 σ3 H3 X.xe I3 (stat fr3) st3 stop) fun r s4 ⟨hr, I4⟩ => ?_)
    subst hr
    exact wpAny_execs_nil ⟨σ3, H3, I4, qn⟩
  · refine wpAny_passesOwn hp (thn (T.item X rfl rfl rfl hc i pins s3 σ3 H3 X.xe I3 (stat fr3) st3 go) fun r s4 ⟨u, hr, h4⟩ => ?_)
    subst hr
    refine wpAny_passesOwn hp (thn h4 fun _ s5 ⟨x, H5, I5, r5, y5, st5, fr5⟩ => ?_)
    have I5' := I5.pinned (stat fr5) (T.obj _ _ st5)
    refine wpAny_passesOwn hp (thn (hg _ s5 σ3 H5 x u _ I5' r5 (step x H5 y5)) fun _ s6 ⟨σ6, H6, I6, q6⟩ => ?_)
    refine wpAny_passesOwn hp (thn (hb _ s6 σ6 H6 _ I6 q6) fun f s7 q7 => ?_)
    have again : ∀ {σ7 : St} {H7 : Hp}, Inv X (pins ++ pinsAt fp s5.heap) σ7 H7 s7 → N σ7 H7 → ∃ m, m < n ∧ ∃ i σ' H', Inv X pins σ' H' s7 ∧ tn i s7.heap ∧ (∀ b ∈ fp, H' b = none) ∧ W i m σ' H' := fun {σ7 H7} I7 n7 => by
      obtain ⟨m', hm, w7⟩ := hN σ7 H7 n7
      refine ⟨m', hm, i + 1, σ7, H7, I7.unpinned, T.keep _ _ _ st5 fun b hb o e => (I7.pin (b, o) (List.mem_append_right _ (List.mem_append_right _ (mem_pinsAt hb e)))).1, fun b hb => ?_, w7⟩
      obtain ⟨o, e, d⟩ := T.obj _ _ st5 b hb
      exact (I7.pin (b, o) (List.mem_append_right _ (List.mem_append_right _ (mem_pinsAt hb e)))).2.1
    cases f with
    | next => obtain ⟨σ7, H7, I7, n7⟩ := q7; exact again I7 n7
    | cont => obtain ⟨σ7, H7, I7, n7⟩ := q7; exact again I7 n7
    | brk => obtain ⟨σ7, H7, I7, q7⟩ := q7; exact ⟨σ7, H7, I7.unpinned, q7⟩
    | ret v => obtain ⟨x7, σ7, H7, I7, r7, q7⟩ := q7; exact ⟨x7, σ7, H7, I7.unpinned, r7, q7⟩
end
theorem for_list {K : PySem.W.Frag} {a : Addr} {xs : List V} {g : TG} {tb : TS} {D : Ends} {σ : St} {H : Hp} (Pv : Nat → St → Hp → Prop) (h0 : Pv 0 σ H) (hl : ∀ i σ H, i ≤ xs.length → Pv i σ H → SqL K H a xs)
    (hs : ∀ i x σ H, xs[i]? = some x → Pv i σ H → g x σ H fun σ2 H2 => tb { D with nx := Pv (i + 1), ct := Pv (i + 1), bk := D.nx } σ2 H2) (hd : ∀ σ H, Pv xs.length σ H → D.nx σ H) :
    ∃ W : Nat → Nat → St → Hp → Prop, (∃ m, W 0 m σ H) ∧ ∀ i m σ H, W i m σ H →
      ((Itl K a).stop i H ∧ D.nx σ H) ∨ ((Itl K a).go i H ∧ ∃ N : St → Hp → Prop, (∀ σ' H', N σ' H' → ∃ m', m' < m ∧ W (i + 1) m' σ' H') ∧ ∀ x H', (Itl K a).yld i H x H' → g x σ H' fun σ2 H2 => tb { D with nx := N, ct := N, bk := D.nx } σ2 H2) := by
  refine ⟨fun i m σ H => m = xs.length - i ∧ i ≤ xs.length ∧ Pv i σ H, ⟨xs.length, by simp, Nat.zero_le _, h0⟩, ?_⟩
  rintro i m σ H ⟨rfl, hi, p⟩
  have q := hl i σ H hi p
  by_cases hlt : i < xs.length
  · refine .inr ⟨⟨xs, xs[i], q, by simp [hlt]⟩, Pv (i + 1), fun σ' H' p' => ⟨xs.length - (i + 1), by omega, rfl, hlt, p'⟩, fun x H' y => ?_⟩
    obtain ⟨e, y⟩ := y
    subst e
    exact hs i x σ _ (y xs q) p
  · have e : i = xs.length := by omega
    subst e
    exact .inl ⟨⟨xs, q, Nat.le_refl _⟩, hd σ H p⟩
theorem for_tup {K : PySem.W.Frag} {a : Addr} {xs : List V} {g : TG} {tb : TS} {D : Ends} {σ : St} {H : Hp} (Pv : Nat → St → Hp → Prop) (h0 : Pv 0 σ H) (hl : ∀ i σ H, i ≤ xs.length → Pv i σ H → SqT K H a xs)
    (hs : ∀ i x σ H, xs[i]? = some x → Pv i σ H → g x σ H fun σ2 H2 => tb { D with nx := Pv (i + 1), ct := Pv (i + 1), bk := D.nx } σ2 H2) (hd : ∀ σ H, Pv xs.length σ H → D.nx σ H) :
    ∃ W : Nat → Nat → St → Hp → Prop, (∃ m, W 0 m σ H) ∧ ∀ i m σ H, W i m σ H →
      ((Itt K a).stop i H ∧ D.nx σ H) ∨ ((Itt K a).go i H ∧ ∃ N : St → Hp → Prop, (∀ σ' H', N σ' H' → ∃ m', m' < m ∧ W (i + 1) m' σ' H') ∧ ∀ x H', (Itt K a).yld i H x H' → g x σ H' fun σ2 H2 => tb { D with nx := N, ct := N, bk := D.nx } σ2 H2) := by
  refine ⟨fun i m σ H => m = xs.length - i ∧ i ≤ xs.length ∧ Pv i σ H, ⟨xs.length, by simp, Nat.zero_le _, h0⟩, ?_⟩
  rintro i m σ H ⟨rfl, hi, p⟩
  have q := hl i σ H hi p
  by_cases hlt : i < xs.length
  · refine .inr ⟨⟨xs, xs[i], q, by simp [hlt]⟩, Pv (i + 1), fun σ' H' p' => ⟨xs.length - (i + 1), by omega, rfl, hlt, p'⟩, fun x H' y => ?_⟩
    obtain ⟨e, y⟩ := y
    subst e
    exact hs i x σ _ (y xs q) p
  · have e : i = xs.length := by omega
    subst e
    exact .inl ⟨⟨xs, q, Nat.le_refl _⟩, hd σ H p⟩
theorem for_range {lo : Int} {n : Nat} {g : TG} {tb : TS} {D : Ends} {σ : St} {H : Hp} (Pv : Nat → St → Hp → Prop) (h0 : Pv 0 σ H)
    (hs : ∀ i σ H, i < n → Pv i σ H → g (.int (lo + i)) σ H fun σ2 H2 => tb { D with nx := Pv (i + 1), ct := Pv (i + 1), bk := D.nx } σ2 H2) (hd : ∀ σ H, Pv n σ H → D.nx σ H) :
    ∃ W : Nat → Nat → St → Hp → Prop, (∃ m, W 0 m σ H) ∧ ∀ i m σ H, W i m σ H →
      ((Itr lo n).stop i H ∧ D.nx σ H) ∨ ((Itr lo n).go i H ∧ ∃ N : St → Hp → Prop, (∀ σ' H', N σ' H' → ∃ m', m' < m ∧ W (i + 1) m' σ' H') ∧ ∀ x H', (Itr lo n).yld i H x H' → g x σ H' fun σ2 H2 => tb { D with nx := N, ct := N, bk := D.nx } σ2 H2) := by
  refine ⟨fun i m σ H => m = n - i ∧ i ≤ n ∧ Pv i σ H, ⟨n, by simp, Nat.zero_le _, h0⟩, ?_⟩
  rintro i m σ H ⟨rfl, hi, p⟩
  by_cases hlt : i < n
  · refine .inr ⟨hlt, Pv (i + 1), fun σ' H' p' => ⟨n - (i + 1), by omega, rfl, hlt, p'⟩, fun x H' y => ?_⟩
    obtain ⟨e, y⟩ := y
    subst e y
    exact hs i σ _ hlt p
  · have e : i = n := by omega
    subst e
    exact .inl ⟨Nat.le_refl _, hd σ H p⟩
end L2
namespace L2
open PySem PySem.Spec PyProof.Rows
abbrev R2 := V → V → Hp → VK → Prop
def OpR (X : Cx) (f : Value → Value → Sem Value) (r : R2) : Prop :=
  ∀ (pins : List (Addr × Obj)) (s : Shared) (σ : St) (H : Hp) (x y : V) (v u : Value) (Q : VK), Inv X pins σ H s → RelV x v → RelV y u → r x y H Q →
    wpAny (model X.prog X.w) X.A (f v u) (EP X pins σ Q) X.xe s
def UnR (X : Cx) (f : Value → Sem Value) (r : V → Hp → VK → Prop) : Prop :=
  ∀ (pins : List (Addr × Obj)) (s : Shared) (σ : St) (H : Hp) (x : V) (v : Value) (Q : VK), Inv X pins σ H s → RelV x v → r x H Q →
    wpAny (model X.prog X.w) X.A (f v) (EP X pins σ Q) X.xe s
def CallR (X : Cx) (f : Value) (r : List V → Hp → VK → Prop) : Prop :=
  ∀ (pins : List (Addr × Obj)) (s : Shared) (σ : St) (H : Hp) (xs : List V) (us : List Value) (Q : VK), Inv X pins σ H s → Vals xs us → r xs H Q →
    wpAny (model X.prog X.w) X.A (call f us) (EP X pins σ Q) X.xe s
def tOp (r : R2) (ta tb : TE) : TE := fun σ H Q => ta σ H fun x H1 => tb σ H1 fun y H2 => r x y H2 Q
def tUn (r : V → Hp → VK → Prop) (ta : TE) : TE := fun σ H Q => ta σ H fun x H1 => r x H1 Q
def rI (C : Int → Int → Prop) (g : Int → Int → V) : R2 := fun x y H Q => ∃ i j, x = .int i ∧ y = .int j ∧ C i j ∧ Q (g i j) H
def rI0 (g : Int → Int → V) : R2 := fun x y H Q => ∃ i j, x = .int i ∧ y = .int j ∧ Q (g i j) H
def rU (g : Int → V) : V → Hp → VK → Prop := fun x H Q => ∃ i, x = .int i ∧ Q (g i) H
section
variable {X : Cx} {a b c : Expr} {ta tb tc : TE} {pos : Pos}
theorem binT (ha : PE X a ta) (hb : PE X b tb) {pins : List (Addr × Obj)} {s : Shared} {σ : St} {H : Hp} {R : V → V → Hp → Prop} (I : Inv X pins σ H s)
    (h : ta σ H fun x H1 => tb σ H1 fun y H2 => R x y H2) {Q : Value → Shared → Prop} {f : Value → Value → Sem Value}
    (hf : ∀ v u s2 x y H2, Inv X pins σ H2 s2 → RelV x v → RelV y u → R x y H2 → wpAny (model X.prog X.w) X.A (f v u) Q X.xe s2) :
    wpAny (model X.prog X.w) X.A (eval a X.env) (fun v s₁ => wpAny (model X.prog X.w) X.A (eval b X.env) (fun u s₂ => wpAny (model X.prog X.w) X.A (f v u) Q X.xe s₂) X.xe s₁) X.xe s := by
  refine thn (ha pins s σ H _ I h) fun v s1 ⟨x, H1, I1, r1, q1⟩ => ?_
  refine thn (hb pins s1 σ H1 _ I1 q1) fun u s2 ⟨y, H2, I2, r2, q2⟩ => ?_
  exact hf v u s2 x y H2 I2 r1 r2 q2
theorem pe_op {op : Operator} {r : R2} (ho : OpR X (binaryOp op) r) (ha : PE X a ta) (hb : PE X b tb) : PE X (.BinOp a op b pos) (tOp r ta tb) := by
  intro pins s σ H Q I h
  exact wpAny_BinOp (binT ha hb I h fun v u s2 x y H2 I2 rx ry q => ho pins s2 σ H2 x y v u Q I2 rx ry q)
theorem pe_un {op : UnaryOp} {r : V → Hp → VK → Prop} (ho : UnR X (unaryOp op) r) (ha : PE X a ta) : PE X (.UnaryOp op a pos) (tUn r ta) := by
  intro pins s σ H Q I h
  exact UnaryOp_ (thn (ha pins s σ H _ I h) fun v s1 ⟨x, H1, I1, r1, q1⟩ => ho pins s1 σ H1 x v Q I1 r1 q1)
theorem opI {f : Value → Value → Sem Value} {C : Int → Int → Prop} {g : Int → Int → Int}
    (rule : ∀ (i j : Int) (t u : Tok) (s : Shared) (Q : Value → Shared → Prop) (E : Value → Shared → Prop), C i j → Q (.int (g i j) s.toks) { s with toks := s.toks + 1 } → wpAny (model X.prog X.w) X.A (f (.int i t) (.int j u)) Q E s) :
    OpR X f (rI C fun i j => .int (g i j)) := by
  intro pins s σ H x y v u Q I rx ry h
  obtain ⟨i, j, rfl, rfl, hc, q⟩ := h
  obtain ⟨t, rfl⟩ := rx
  obtain ⟨t', rfl⟩ := ry
  exact rule i j t t' s _ _ hc ⟨.int (g i j), H, I.tok _, ⟨_, rfl⟩, q⟩
theorem opI0 {f : Value → Value → Sem Value} {g : Int → Int → Int}
    (rule : ∀ (i j : Int) (t u : Tok) (s : Shared) (Q : Value → Shared → Prop) (E : Value → Shared → Prop), Q (.int (g i j) s.toks) { s with toks := s.toks + 1 } → wpAny (model X.prog X.w) X.A (f (.int i t) (.int j u)) Q E s) :
    OpR X f (rI0 fun i j => .int (g i j)) := by
  intro pins s σ H x y v u Q I rx ry h
  obtain ⟨i, j, rfl, rfl, q⟩ := h
  obtain ⟨t, rfl⟩ := rx
  obtain ⟨t', rfl⟩ := ry
  exact rule i j t t' s _ _ ⟨.int (g i j), H, I.tok _, ⟨_, rfl⟩, q⟩
theorem opB0 {f : Value → Value → Sem Value} {g : Int → Int → Bool}
    (rule : ∀ (i j : Int) (t u : Tok) (s : Shared) (Q : Value → Shared → Prop) (E : Value → Shared → Prop), Q (.bool (g i j)) s → wpAny (model X.prog X.w) X.A (f (.int i t) (.int j u)) Q E s) :
    OpR X f (rI0 fun i j => .bl (g i j)) := by
  intro pins s σ H x y v u Q I rx ry h
  obtain ⟨i, j, rfl, rfl, q⟩ := h
  obtain ⟨t, rfl⟩ := rx
  obtain ⟨t', rfl⟩ := ry
  exact rule i j t t' s _ _ ⟨.bl (g i j), H, I, rfl, q⟩
def CDiv (i j : Int) : Prop := 0 < j ∧ j < 1073741824
def CDivN (i j : Int) : Prop := j ≠ 0 ∧ j.natAbs < 1073741824
def CPow (i j : Int) : Prop := 0 ≤ j ∧ j ≤ 1000000 ∧ i.natAbs < 2 ^ 64
def CMul (i j : Int) : Prop := (-(2 ^ 64) < i ∧ i < 2 ^ 64) ∨ (-(2 ^ 64) < j ∧ j < 2 ^ 64)
theorem CMul.ok {i j : Int} (h : CMul i j) : IntMulOk i j := by
  rcases h with ⟨h1, h2⟩ | ⟨h1, h2⟩
  · exact .of_left (intBits_le_64 h1 h2)
  · exact .of_right (intBits_le_64 h1 h2)
theorem op_add : OpR X (binaryOp .Add) (rI0 fun i j => .int (i + j)) := opI0 fun _ _ _ _ _ _ _ q => add_int q
theorem op_sub : OpR X (binaryOp .Sub) (rI0 fun i j => .int (i - j)) := opI0 fun _ _ _ _ _ _ _ q => sub_int q
theorem op_mul : OpR X (binaryOp .Mult) (rI CMul fun i j => .int (i * j)) := opI fun _ _ _ _ _ _ _ hc q => mul_int q hc.ok
theorem op_fdiv : OpR X (binaryOp .FloorDiv) (rI CDiv fun i j => .int (i / j)) := opI fun i j _ _ _ _ _ hc q => by
  have h1 : (0 : Int) < j := hc.1
  have h2 : j < 1073741824 := hc.2
  exact floordiv_int (by omega) (by rw [Int.fdiv_eq_ediv_of_nonneg i (by omega)]; exact q) (.inl (PyProof.noPylong_small (by omega)))
theorem op_mod : OpR X (binaryOp .Mod) (rI (fun _ j => 0 < j) fun i j => .int (i % j)) := opI fun i j _ _ _ _ _ hc q => by
  have h1 : (0 : Int) < j := hc
  exact mod_int' (by omega) (by rw [Int.fmod_eq_emod_of_nonneg i (by omega)]; exact q)
theorem op_pow : OpR X (binaryOp .Pow) (rI CPow fun i j => .int (i ^ j.toNat)) := opI fun _ _ _ _ _ _ _ hc q => pow_int_small hc.1 hc.2.1 hc.2.2 q
theorem unI {f : Value → Sem Value} {g : Int → Int}
    (rule : ∀ (i : Int) (t : Tok) (s : Shared) (Q : Value → Shared → Prop) (E : Value → Shared → Prop), Q (.int (g i) s.toks) { s with toks := s.toks + 1 } → wpAny (model X.prog X.w) X.A (f (.int i t)) Q E s) :
    UnR X f (rU fun i => .int (g i)) := by
  intro pins s σ H x v Q I rx h
  obtain ⟨i, rfl, q⟩ := h
  obtain ⟨t, rfl⟩ := rx
  exact rule i t s _ _ ⟨.int (g i), H, I.tok _, ⟨_, rfl⟩, q⟩
theorem un_neg : UnR X (unaryOp .USub) (rU fun i => .int (-i)) := unI fun _ _ _ _ _ q => neg_int q
end
def scal : V → V → Bool
  | .non, .non => true | .non, .int _ => true | .int _, .non => true | .non, .bl _ => true | .bl _, .non => true | .non, .str _ => true | .str _, .non => true
  | .int _, .int _ => true | .bl _, .bl _ => true | .str _, .str _ => true | .byt _, .byt _ => true
  | .int _, .str _ => true | .str _, .int _ => true | .bl _, .str _ => true | .str _, .bl _ => true
  | _, _ => false
def rEq : R2 := fun x y H Q => scal x y = true ∧ Q (.bl (decide (x = y))) H
def rNe : R2 := fun x y H Q => scal x y = true ∧ Q (.bl (!decide (x = y))) H
theorem dec_int {i j : Int} : decide (V.int i = V.int j) = (i == j) := by
  rw [Bool.eq_iff_iff]
  simp
theorem dec_bl {i j : Bool} : decide (V.bl i = V.bl j) = (i == j) := by
  rw [Bool.eq_iff_iff]
  simp
theorem dec_str {i j : Str} : decide (V.str i = V.str j) = (i == j) := by
  rw [Bool.eq_iff_iff]
  simp
theorem dec_byt {i j : Array UInt8} : decide (V.byt i = V.byt j) = (i.toList == j.toList) := by
  rw [Bool.eq_iff_iff]
  cases i
  cases j
  simp
section
variable {X : Cx} {a b c : Expr} {ta tb tc : TE} {pos : Pos}
theorem fin_bl {pins : List (Addr × Obj)} {σ : St} {H : Hp} {s : Shared} {Q : VK} {k k' : Bool} (I : Inv X pins σ H s) (q : Q (.bl k) H) (e : k = k') : EP X pins σ Q (.bool k') s := by
  subst e
  exact ⟨.bl k, H, I, rfl, q⟩
theorem op_eq : OpR X (compareOp .Eq) rEq := by
  intro pins s σ H x y v u Q I rx ry h
  obtain ⟨hs, q⟩ := h
  cases x with
  | non =>
    cases rx
    cases y with
    | non => cases ry; exact PySem.EqNone.eq_none_none (fin_bl I q (by simp))
    | bl j => cases ry; exact PySem.EqNone.eq_none_bool (fin_bl I q (by simp))
    | int j => obtain ⟨t', rfl⟩ := ry; exact PySem.EqNone.eq_none_int (fin_bl I q (by simp))
    | str j => obtain ⟨t', rfl⟩ := ry; exact PySem.EqNone.eq_none_str (fin_bl I q (by simp))
    | _ => exact absurd (show false = true from hs) Bool.false_ne_true
  | bl i =>
    cases rx
    cases y with
    | non => cases ry; exact PySem.EqNone.eq_bool_none (fin_bl I q (by simp))
    | bl j => cases ry; exact eq_bool (fin_bl I q dec_bl)
    | str j => obtain ⟨t', rfl⟩ := ry; exact PySem.EqMixed.eq_bool_str (fin_bl I q (by simp))
    | _ => exact absurd (show false = true from hs) Bool.false_ne_true
  | int i =>
    obtain ⟨t, rfl⟩ := rx
    cases y with
    | non => cases ry; exact PySem.EqNone.eq_int_none (fin_bl I q (by simp))
    | int j => obtain ⟨t', rfl⟩ := ry; exact eq_int (fin_bl I q dec_int)
    | str j => obtain ⟨t', rfl⟩ := ry; exact PySem.EqMixed.eq_int_str (fin_bl I q (by simp))
    | _ => exact absurd (show false = true from hs) Bool.false_ne_true
  | str i =>
    obtain ⟨t, rfl⟩ := rx
    cases y with
    | non => cases ry; exact PySem.EqNone.eq_str_none (fin_bl I q (by simp))
    | bl j => cases ry; exact PySem.EqMixed.eq_str_bool (fin_bl I q (by simp))
    | int j => obtain ⟨t', rfl⟩ := ry; exact PySem.EqMixed.eq_str_int (fin_bl I q (by simp))
    | str j => obtain ⟨t', rfl⟩ := ry; exact eq_str (fin_bl I q dec_str)
    | _ => exact absurd (show false = true from hs) Bool.false_ne_true
  | byt i =>
    obtain ⟨t, rfl⟩ := rx
    cases y with
    | byt j => obtain ⟨t', rfl⟩ := ry; exact PySem.W.eq_bytes (fin_bl I q dec_byt)
    | _ => exact absurd (show false = true from hs) Bool.false_ne_true
  | _ => cases y <;> exact absurd (show false = true from hs) Bool.false_ne_true
theorem op_ne : OpR X (compareOp .NotEq) rNe := by
  intro pins s σ H x y v u Q I rx ry h
  obtain ⟨hs, q⟩ := h
  cases x with
  | non =>
    cases rx
    cases y with
    | non => cases ry; exact PySem.EqNone.ne_none_none (fin_bl I q (by simp))
    | bl j => cases ry; exact PySem.EqNone.ne_none_bool (fin_bl I q (by simp))
    | int j => obtain ⟨t', rfl⟩ := ry; exact PySem.EqNone.ne_none_int (fin_bl I q (by simp))
    | str j => obtain ⟨t', rfl⟩ := ry; exact PySem.EqNone.ne_none_str (fin_bl I q (by simp))
    | _ => exact absurd (show false = true from hs) Bool.false_ne_true
  | bl i =>
    cases rx
    cases y with
    | non => cases ry; exact PySem.EqNone.ne_bool_none (fin_bl I q (by simp))
    | bl j => cases ry; exact ne_bool (fin_bl I q (congrArg not dec_bl))
    | str j => obtain ⟨t', rfl⟩ := ry; exact PySem.EqMixed.ne_bool_str (fin_bl I q (by simp))
    | _ => exact absurd (show false = true from hs) Bool.false_ne_true
  | int i =>
    obtain ⟨t, rfl⟩ := rx
    cases y with
    | non => cases ry; exact PySem.EqNone.ne_int_none (fin_bl I q (by simp))
    | int j => obtain ⟨t', rfl⟩ := ry; exact ne_int (fin_bl I q (congrArg not dec_int))
    | str j => obtain ⟨t', rfl⟩ := ry; exact PySem.EqMixed.ne_int_str (fin_bl I q (by simp))
    | _ => exact absurd (show false = true from hs) Bool.false_ne_true
  | str i =>
    obtain ⟨t, rfl⟩ := rx
    cases y with
    | non => cases ry; exact PySem.EqNone.ne_str_none (fin_bl I q (by simp))
    | bl j => cases ry; exact PySem.EqMixed.ne_str_bool (fin_bl I q (by simp))
    | int j => obtain ⟨t', rfl⟩ := ry; exact PySem.EqMixed.ne_str_int (fin_bl I q (by simp))
    | str j => obtain ⟨t', rfl⟩ := ry; exact ne_str (fin_bl I q (congrArg not dec_str))
    | _ => exact absurd (show false = true from hs) Bool.false_ne_true
  | byt i =>
    obtain ⟨t, rfl⟩ := rx
    cases y with
    | byt j => obtain ⟨t', rfl⟩ := ry; exact PySem.W.ne_bytes (fin_bl I q (congrArg not dec_byt))
    | _ => exact absurd (show false = true from hs) Bool.false_ne_true
  | _ => cases y <;> exact absurd (show false = true from hs) Bool.false_ne_true
theorem op_lt : OpR X (compareOp .Lt) (rI0 fun i j => .bl (decide (i < j))) := opB0 fun _ _ _ _ _ _ _ q => lt_int q
theorem op_gt : OpR X (compareOp .Gt) (rI0 fun i j => .bl (decide (j < i))) := opB0 fun _ _ _ _ _ _ _ q => gt_int q
theorem op_ge : OpR X (compareOp .GtE) (rI0 fun i j => .bl (decide (j ≤ i))) := opB0 fun _ _ _ _ _ _ _ q => ge_int q
theorem op_isN : OpR X (compareOp .Is) (fun x y H Q => y = .non ∧ Q (.bl (decide (x = .non))) H) := by
  intro pins s σ H x y v u Q I rx ry h
  obtain ⟨rfl, q⟩ := h
  cases ry
  refine is_none_gen (fin_bl I q ?_)
  cases x <;> first
    | (cases rx; rfl)
    | (obtain ⟨t, rfl⟩ := rx; rfl)
theorem nomark (b : Expr) {op : CmpOp} (h : op ≠ .In := by decide) (h2 : op ≠ .NotIn := by decide) : behindInMarks op b = false := by
  have e1 : (op == CmpOp.In) = false := by cases op <;> first | rfl | exact absurd rfl h
  have e2 : (op == CmpOp.NotIn) = false := by cases op <;> first | rfl | exact absurd rfl h2
  cases b <;> simp [behindInMarks, e1, e2]
theorem pe_cmpR {op : CmpOp} {r : R2} (ho : OpR X (compareOp op) r) (ha : PE X a ta) (hb : PE X b tb) (hm : behindInMarks op b = false) : PE X (.Compare a [op] [b] pos) (tOp r ta tb) := by
  intro pins s σ H Q I h
  exact wpAny_Compare1 (binT ha hb I h fun v u s2 x y H2 I2 rx ry q => ho pins s2 σ H2 x y v u Q I2 rx ry q) hm
def tTest (t : TE) : TT := fun σ H Q => t σ H fun x H' => ∃ k, x = .bl k ∧ Q k H'
theorem pt_cmpR {op : CmpOp} {r : R2} (ho : OpR X (compareOp op) r) (ha : PE X a ta) (hb : PE X b tb) (hm : behindInMarks op b = false) : PT X (.Compare a [op] [b] pos) (tTest (tOp r ta tb)) := by
  intro pins s σ H Q I h
  refine wpAny_isTrue_Compare1 (thn (ha pins s σ H _ I h) fun v s1 ⟨x, H1, I1, r1, q1⟩ => thn (hb pins s1 σ H1 _ I1 q1) fun u s2 ⟨y, H2, I2, r2, q2⟩ =>
    thn (ho pins s2 σ H2 x y v u _ I2 r1 r2 q2) fun c s3 ⟨z, H3, I3, r3, k, e, q3⟩ => ?_) hm
  subst e
  cases r3
  exact wpAny_truthy_bool ⟨H3, I3, q3⟩
def tChain (r r' : R2) (ta tb tc : TE) : TE := fun σ H Q => ta σ H fun x H1 => tb σ H1 fun y H2 => r x y H2 fun z H3 => ∃ k, z = .bl k ∧
  (if k = true then tc σ H3 fun w' H4 => r' y w' H4 Q else Q (.bl false) H3)
theorem line63 : (sizeLine : Nat) < 2 ^ 63 := by rw [sizeLine_eq]; decide
theorem op_add_str : OpR X (binaryOp .Add) (fun x y H Q => ∃ i j, x = .str i ∧ y = .str j ∧ i.length + j.length ≤ sizeLine ∧ Q (.str (i ++ j)) H) := by
  intro pins s σ H x y v u Q I rx ry h
  obtain ⟨i, j, rfl, rfl, hz, q⟩ := h
  obtain ⟨t, rfl⟩ := rx
  obtain ⟨t', rfl⟩ := ry
  exact add_str (fun t' tk => ⟨.str (i ++ j), H, I.tok _, ⟨_, rfl⟩, q⟩) hz
theorem vals1 {x : V} {us : List Value} (r : Vals [x] us) : ∃ u, us = [u] ∧ RelV x u := by
  cases r with
  | cons r1 r2 => cases r2; exact ⟨_, rfl, r1⟩
theorem vals2 {x y : V} {us : List Value} (r : Vals [x, y] us) : ∃ u w', us = [u, w'] ∧ RelV x u ∧ RelV y w' := by
  cases r with
  | cons r1 r2 =>
    cases r2 with
    | cons r3 r4 => cases r4; exact ⟨_, _, rfl, r1, r3⟩
theorem call_max2 (hc : X.calm = true) : CallR X (.builtin "max") (fun xs H Q => ∃ i j, xs = [.int i, .int j] ∧ Q (.int (if j > i then j else i)) H) := by
  intro pins s σ H xs us Q I r h
  obtain ⟨i, j, rfl, q⟩ := h
  obtain ⟨u, w', rfl, ⟨t, rfl⟩, ⟨t', rfl⟩⟩ := vals2 r
  refine max_two_ints (I.ok.hd hc) fun h' tk k => ⟨_, H, I.kept k, ?_, q⟩
  by_cases hj : j > i
  · rw [if_pos hj, if_pos hj]; exact ⟨_, rfl⟩
  · rw [if_neg hj, if_neg hj]; exact ⟨_, rfl⟩
end
end L2
namespace L2
open PySem PySem.Spec PyProof.Rows
structure ObjM (h : Heap) (x dx C : Addr) (mA : Str → Option Value) : Prop where
  obj : h.get? x = some (PySem.W.instObj C dx)
  ns : h.Ns1 dx mA
  ne : dx ≠ x
theorem lookIn_ns {h : Heap} {dx : Addr} {mA : Str → Option Value} (n : h.Ns1 dx mA) : ∃ od, h.get? dx = some od ∧ ∀ name, PySem.W.lookIn name od = some (mA name) := by
  obtain ⟨o, es, ep, ho, hd, hk, _, hm⟩ := n
  refine ⟨o, ho, fun name => ?_⟩
  have e := hm name
  unfold nsFind findBy at e
  rw [← Array.find?_toList] at e
  unfold PySem.W.lookIn
  rw [hd]
  dsimp only
  split
  · rename_i y q
    rw [q] at e
    exact congrArg some e
  · rename_i q
    rw [q] at e
    have a : es.toList.any (·.refKey) = false := by
      rw [List.any_eq_false]
      intro y hy
      obtain ⟨z, t, hkey⟩ := hk y (Array.mem_toList_iff.mp hy)
      simp [DictEntry.refKey, hkey]
    have a' : ¬ es.toList.any (·.refKey) = true := by rw [a]; exact Bool.false_ne_true
    rw [if_neg a']
    exact congrArg some e
theorem ObjM.look {h : Heap} {x dx C : Addr} {mA : Str → Option Value} (I : ObjM h x dx C mA) : ∃ od, PySem.W.InstAt h x (PySem.W.instObj C dx) C (some od) ∧ ∀ name, PySem.W.lookIn name od = some (mA name) :=
  let ⟨od, ho, hl⟩ := lookIn_ns I.ns
  ⟨od, ⟨I.obj, rfl, rfl, ho⟩, hl⟩
section
variable {prog : Program} {w : World} {A : Around} {E : Value → Shared → Prop} {s : Shared} {K : PySem.W.Frag} {x dx C f : Addr} {mA : Str → Option Value} {name : Str} {v : Value}
end
section
variable {P : Program} {w : World} {H H' : Hp} {h h' : Heap} {a C dx : Addr} {fs fs' : List (Str × V)}
theorem ins_get (hok : HOk P w H h) (e : H a = some (.ins C dx fs)) : ∃ mA, ObjM h a dx C mA ∧ (∀ f, RelO (fs.lookup f) (mA f)) ∧ PySem.Within mA (fs.map (·.1)) ∧ fs.length ≤ 1000 ∧ H dx = some (.own a) := by
  obtain ⟨d, z, ne, ob, mA, n, r, q⟩ := (show ObjOk P w H h a (.ins C dx fs) from hok a _ e)
  exact ⟨mA, ⟨ob, n, ne⟩, r, q, z, d⟩
end
structure Cls (K : PySem.W.Frag) (C : Addr) : Prop where
  pg : PySem.W.plainGet K C Str.empty = true
  hd : PySem.W.hasDictIn K C = true
  po : PySem.W.plainOver K C = true
  sa : PySem.W.findIn K (.ref C) "__setattr__" = some (some (.builtin "object.__setattr__"))
theorem Cls.get {K : PySem.W.Frag} {C : Addr} (c : Cls K C) (f : Str) : PySem.W.plainGet K C f = true := c.pg
structure Con (K : PySem.W.Frag) (C : Addr) (f : Str) (v : V) (u : Value) : Prop where
  at_ : PySem.W.findIn K (.ref C) f = some (some u)
  rel : RelV v u
  get : PySem.W.specialIn K u "__get__" = some none
  cp : PySem.W.copiedNames.contains f = false
structure Meth (K : PySem.W.Frag) (C : Addr) (m : Str) (f : Addr) : Prop where
  at_ : PySem.W.findIn K (.ref C) m = some (some (.ref f))
  fn : PySem.W.isFn K (.ref f) = true
  kp : PySem.W.keepIn K (.ref f) = true
section
variable {X : Cx} {pins : List (Addr × Obj)} {σ : St} {H : Hp} {s : Shared} {a C dx : Addr} {fs : List (Str × V)} {f : Str} {v : V} {A : Around} {E : Value → Shared → Prop}
theorem Inv.made (I : Inv X pins σ H s) : Inv X pins σ (upd (upd H s.heap.objs.size (.own (s.heap.objs.size + 1))) (s.heap.objs.size + 1) (.ins C s.heap.objs.size []))
    { s with heap := (s.heap.push PySem.W.emptyDict).push (PySem.W.instObj C s.heap.objs.size) } := by
  have e1 : (s.heap.push PySem.W.emptyDict).get? s.heap.objs.size = some PySem.W.emptyDict := Heap.get?_push_size s.heap rfl
  have e2 : ((s.heap.push PySem.W.emptyDict).push (PySem.W.instObj C s.heap.objs.size)).get? (s.heap.objs.size + 1) = some (PySem.W.instObj C s.heap.objs.size) := by
    have := Heap.get?_push_size (s.heap.push PySem.W.emptyDict) (o := PySem.W.instObj C s.heap.objs.size) rfl
    rwa [Heap.size_push] at this
  have e3 : (s.heap.push PySem.W.emptyDict).Ns s.heap.objs.size (fun _ => none) := ⟨PySem.W.emptyDict, #[], _, e1, rfl, (fun e he => absurd he (by simp)), fun _ => rfl⟩
  have I1 := I.laid (a := s.heap.objs.size) (o := .own (s.heap.objs.size + 1)) (h' := s.heap.push PySem.W.emptyDict) (t' := s.toks) (fun b u q => Heap.get?_push_of_some _ q) (Nat.le_refl _) ⟨_, e1⟩
  refine I1.laid (a := s.heap.objs.size + 1) (o := .ins C s.heap.objs.size []) (t' := s.toks) (fun b u q => Heap.get?_push_of_some _ q) (Nat.le_of_eq (Heap.size_push _ _)) ?_
  have ne : s.heap.objs.size ≠ s.heap.objs.size + 1 := Nat.ne_of_lt (Nat.lt_succ_self _)
  refine ⟨by rw [upd_ne ne, upd_same], Nat.zero_le _, ne, e2, fun _ => none, (Heap.Ns1.of_empty e3).at fun o q => Heap.get?_push_of_some _ q, fun _ => True.intro, fun y hy => absurd rfl hy⟩
end
section
variable {X : Cx} {o e value : Expr} {f : Str} {pos pos' tpos : Pos} {ta tv : TE}
end
section
variable {X : Cx} {pins : List (Addr × Obj)} {σ : St} {H : Hp} {s : Shared} {A : Around} {E : Value → Shared → Prop} {Q : Value → Shared → Prop} {c : Value} {b : Bool}
inductive TyOf (K : PySem.W.Frag) (H : Hp) : V → Value → Prop where
  | non : TyOf K H .non (.type "NoneType")
  | bl (x : Bool) : TyOf K H (.bl x) (.type "bool")
  | int (i : Int) : TyOf K H (.int i) (.type "int")
  | str (x : Str) : TyOf K H (.str x) (.type "str")
  | flt (x : UInt64) : TyOf K H (.flt x) (.type "float")
  | lst {a : Addr} {xs : List V} (e : H a = some (.lst xs)) : TyOf K H (.ref a) (.type "list")
  | frz {a : Addr} {o : Obj} {xs : List V} (e : H a = some (.frz o (.lst xs))) : TyOf K H (.ref a) (.type "list")
  | tup {a : Addr} {xs : List V} (e : H a = some (.tup xs)) : TyOf K H (.ref a) (.type "tuple")
  | dK {a : Addr} {kvs : List (Key × V)} (e : H a = some (.dK kvs)) : TyOf K H (.ref a) (.type "dict")
  | dT {a : Addr} {kvs : List (List Key × V)} (e : H a = some (.dT kvs)) : TyOf K H (.ref a) (.type "dict")
  | ins {a C dx : Addr} {fs : List (Str × V)} (e : H a = some (.ins C dx fs)) (cl : Cls K C) (ha : PySem.W.findIn K (.ref C) "__class__" = some (some (.builtin "object.__class__")))
      (hn : PySem.W.specialIn K (.builtin "object.__class__") "__get__" = some (some (.builtin "getset_descriptor.__get__"))) (htk : PySem.W.takesIn K (.builtin "object.__class__") = some true)
      (hm : PySem.W.mroIn K C (.type "object") = some true) : TyOf K H (.ref a) (.ref C)
theorem isinst_ok {x : V} {u t : Value} (I : Inv X pins σ H s) (rx : RelV x u) (ty : TyOf X.K H x t) (e : PySem.W.kitOne X.K t c = some b) (h : ∀ tk, Q (.bool b) { s with toks := tk }) :
    wpAny (model X.prog X.w) A (call (.builtin "isinstance") [u, c]) Q E s := by
  cases ty with
  | non => cases (show u = Value.none from rx); exact PySem.W.kia_one PySem.W.kitx_none I.kIn True.intro e (fun z => nomatch z) h
  | bl y => cases (show u = Value.bool y from rx); exact PySem.W.kia_one PySem.W.kitx_bool I.kIn True.intro e (fun z => nomatch z) h
  | int i => obtain ⟨t, q⟩ := (show ∃ t, u = Value.int i t from rx); cases q; exact PySem.W.kia_one PySem.W.kitx_int I.kIn True.intro e (fun z => nomatch z) h
  | str y => obtain ⟨t, q⟩ := (show ∃ t, u = Value.str y t from rx); cases q; exact PySem.W.kia_one PySem.W.kitx_str I.kIn True.intro e (fun z => nomatch z) h
  | flt y => obtain ⟨t, q⟩ := (show ∃ t, u = Value.float y t from rx); cases q; exact PySem.W.kia_one PySem.W.kitx_float I.kIn True.intro e (fun z => nomatch z) h
  | @lst a xs ea =>
    cases (show u = Value.ref a from rx)
    obtain ⟨_, _, n, _, h1⟩ := (show ObjOk X.prog X.w H s.heap a (.lst xs) from I.hok a _ ea)
    exact PySem.W.kia_one PySem.W.kitx_list I.kIn ⟨_, h1, rfl⟩ e (fun z => nomatch z) h
  | @frz a ob xs ea =>
    cases (show u = Value.ref a from rx)
    obtain ⟨_, _, _, n, _, h1⟩ := (show ObjOk X.prog X.w H s.heap a (.frz ob (.lst xs)) from I.hok a _ ea)
    exact PySem.W.kia_one PySem.W.kitx_list I.kIn ⟨_, h1, rfl⟩ e (fun z => nomatch z) h
  | @tup a xs ea =>
    cases (show u = Value.ref a from rx)
    obtain ⟨_, _, _, p⟩ := (show ObjOk X.prog X.w H s.heap a (.tup xs) from I.hok a _ ea)
    obtain ⟨o, h1, h2, _⟩ := p
    exact PySem.W.kia_one PySem.W.kitx_tuple I.kIn ⟨o, h1, h2⟩ e (fun z => nomatch z) h
  | @dK a kvs ea =>
    cases (show u = Value.ref a from rx)
    obtain ⟨_, _, vs, _, p⟩ := (show ObjOk X.prog X.w H s.heap a (.dK kvs) from I.hok a _ ea)
    obtain ⟨o, es, ep, h1, h2, _⟩ := p
    exact PySem.W.kia_one PySem.W.kitx_dict I.kIn ⟨o, h1, h2.1⟩ e (fun z => nomatch z) h
  | @dT a kvs ea =>
    cases (show u = Value.ref a from rx)
    obtain ⟨_, _, xs, _, o, es, ep, h1, h2, _⟩ := (show ObjOk X.prog X.w H s.heap a (.dT kvs) from I.hok a _ ea)
    exact PySem.W.kia_one PySem.W.kitx_dict I.kIn ⟨o, h1, h2.1⟩ e (fun z => nomatch z) h
  | @ins a C dx fs ea cl ha hn htk hm =>
    cases (show u = Value.ref a from rx)
    obtain ⟨mA, O, _⟩ := ins_get I.hok ea
    obtain ⟨od, J, _⟩ := O.look
    exact PySem.W.kia_one (PySem.W.kitx_own (cl.get _) cl.hd ha hn htk hm) I.kIn J e (fun z => nomatch z) h
end
end L2
namespace L2
open PySem PySem.Spec PyProof.Rows
structure Room (k : Nat) (A : Around) : Prop where
  hd : A.handled = none
  dp : A.depth + 3 * k + 5 < recursionLimit
  un : A.units + 16 * k + 200 < cLine
theorem Room.mono {j k : Nat} {A : Around} (r : Room k A) (h : j ≤ k) : Room j A := ⟨r.hd, by have := r.dp; omega, by have := r.un; omega⟩
theorem Room.deeper {k : Nat} {A : Around} (r : Room (k + 1) A) (env : Env) : Room k (A.deeper env) :=
  ⟨r.hd, by have := r.dp; show A.depth + 1 + 3 * k + 5 < _; omega, by have := r.un; show A.units + 3 + 16 * k + 200 < _; omega⟩
theorem Room.in1 {k : Nat} {A : Around} (r : Room (k + 1) A) : Room k A.in1 :=
  ⟨r.hd, by have := r.dp; show A.depth + 3 * k + 5 < _; omega, by have := r.un; show A.units + 1 + 16 * k + 200 < _; omega⟩
theorem Room.depth {k : Nat} {A : Around} (r : Room k A) : A.depth < recursionLimit := by have := r.dp; omega
theorem Room.units {k : Nat} {A : Around} (r : Room k A) : A.units + 64 < cLine := by have := r.un; omega
theorem Room.units0 {k : Nat} {A : Around} (r : Room k A) : A.units < cLine := by have := r.un; omega
def tNil : TA := fun _ H Q => Q [] H
def tCons (ta : TE) (tr : TA) : TA := fun σ H Q => ta σ H fun x H1 => tr σ H1 fun xs H2 => Q (x :: xs) H2
section
variable {X : Cx} {e : Expr} {es : List Expr} {te : TE} {t : TA} {pos : Pos}
theorem pa_nil : PA X [] tNil := fun _ _ _ _ H Q I h => Calls.spliced_nil ⟨[], H, I, .nil, h⟩
theorem pa_cons (ha : PE X e te) (hr : PA X es t) (hs : starEach (e :: es) X.env = (false, eval e X.env) :: starEach es X.env := by rfl) : PA X (e :: es) (tCons te t) := by
  intro pos pins s σ H Q I h
  rw [hs]
  show wpAny _ _ (spliced ((false, eval e X.env) :: backTo pos (starEach es X.env))) _ _ s
  refine Calls.spliced_cons (thn (ha pins s σ H _ I h) fun u s1 ⟨x, H1, I1, r1, q1⟩ => ?_)
  exact thn (hr pos pins s1 σ H1 _ I1 q1) fun us s2 ⟨xs, H2, I2, r2, q2⟩ => ⟨x :: xs, H2, I2, .cons r1 r2, q2⟩
def tTup (t : TA) : TE := fun σ H Q => t σ H fun xs H1 => xs.length ≤ sizeLine ∧ ∀ p, H1 p = none → Q (.ref p) (upd H1 p (.tup xs))
def tLst (t : TA) : TE := fun σ H Q => t σ H fun xs H1 => xs.length ≤ sizeLine ∧ ∀ p, H1 p = none → Q (.ref p) (upd H1 p (.lst xs))
theorem pe_tup {x1} (h : PA X es t) : PE X (.Tuple es x1 pos) (tTup t) := by
  intro pins s σ H Q I hq
  refine wpAny_Tuple_spliced (thn (h pos pins s σ H _ I hq) fun us s1 ⟨xs, H1, I1, r, z, q⟩ => ⟨by rw [← r.length]; exact z, ?_⟩)
  have hf : H1 s1.heap.objs.size = none := I1.hok.fresh (Nat.le_refl _)
  refine ⟨.ref s1.heap.objs.size, upd H1 s1.heap.objs.size (.tup xs), I1.laid (t' := s1.toks) (fun b u e => Heap.get?_push_of_some _ e) (Nat.le_refl _) ?_, rfl, q _ hf⟩
  exact ⟨z, us, r, ⟨_, Heap.get?_push_size _ rfl, rfl, _, rfl⟩⟩
theorem pe_lst (h : PA X es t) : PE X (.List es pos) (tLst t) := by
  intro pins s σ H Q I hq
  refine wpAny_List_spliced (thn (h pos pins s σ H _ I hq) fun us s1 ⟨xs, H1, I1, r, z, q⟩ => ⟨by rw [← r.length]; exact z, ?_⟩)
  have hf : H1 s1.heap.objs.size = none := I1.hok.fresh (Nat.le_refl _)
  refine ⟨.ref s1.heap.objs.size, upd H1 s1.heap.objs.size (.lst xs), I1.laid (t' := s1.toks) (fun b u e => Heap.get?_push_of_some _ e) (Nat.le_refl _) ?_, rfl, q _ hf⟩
  exact ⟨z, us, 0, r, Heap.get?_push_size _ rfl⟩
end
abbrev Sp := List V → Hp → VK → XK → Prop
abbrev CXT := List Env → Hp → Shared → XK → Value → Shared → Prop
structure Env0 (P : Program) (w : World) (K : PySem.W.Frag) (mg : Str → Option Value) (base : Heap) (A : Around) (outer : List Env) (s : Shared) (H : Hp) : Prop where
  frames : A.frames = some outer
  mod : Mod K mg base
  bs : ∀ b o, base.get? b = some o → s.heap.get? b = some o ∧ H b = none
  bsz : base.objs.size ≤ s.heap.objs.size
  funs : s.heap.FunFrames base outer
  frf : ∀ b ∈ frs outer, H b = none
  hok : HOk P w H s.heap
  bare : AllBare s.gens
def CE (outer : List Env) (P : Program) (w : World) (H : Hp) (s : Shared) (Q : VK) (u : Value) (s' : Shared) : Prop :=
  ∃ v H', s'.os = s.os ∧ AllBare s'.gens ∧ Un (frs outer) [] H H' s.heap s'.heap ∧ HOk P w H' s'.heap ∧ RelV v u ∧ Q v H'
def CR (CX : CXT) (outer : List Env) (P : Program) (w : World) (H : Hp) (s : Shared) (Q : VK) (E : XK) (r : Result) (s' : Shared) : Prop :=
  match r with
  | .ok (.ret u) => CE outer P w H s Q u s'
  | .ok _ => False
  | .error e => CX outer H s E e s'
structure FnOk (P : Program) (w : World) (K : PySem.W.Frag) (mg : Str → Option Value) (base : Heap) (CX : CXT) (k : Nat) (f : Addr) (fd : FuncData) (ps : List Str) (sp : Sp) : Prop where
  len : ∀ vs H Q E, sp vs H Q E → vs.length = ps.length
  run : ∀ (A : Around) (outer : List Env) (s : Shared) (H : Hp) (args : Args) (us : List Value) (vs : List V) (Q : VK) (E : XK), Room k A → Env0 P w K mg base A outer s H → BindsTo s fd args (ps.zip us) → Vals vs us → sp vs H Q E →
    codeAny (model P w) A (.call (.ref f) args) (CR CX outer P w H s Q E) s
theorem FnOk.mono {P : Program} {w : World} {K : PySem.W.Frag} {mg : Str → Option Value} {base : Heap} {CX : CXT} {j k : Nat} {f : Addr} {fd : FuncData} {ps : List Str} {sp : Sp} (F : FnOk P w K mg base CX j f fd ps sp) (h : j ≤ k) :
    FnOk P w K mg base CX k f fd ps sp := ⟨F.len, fun A outer s H args us vs Q E hr => F.run A outer s H args us vs Q E (hr.mono h)⟩
theorem FnOk.imp {P : Program} {w : World} {K : PySem.W.Frag} {mg : Str → Option Value} {base : Heap} {CX : CXT} {k : Nat} {f : Addr} {fd : FuncData} {ps : List Str} {sp sp' : Sp} (F : FnOk P w K mg base CX k f fd ps sp)
    (h : ∀ vs H Q E, sp' vs H Q E → sp vs H Q E) : FnOk P w K mg base CX k f fd ps sp' :=
  ⟨fun vs H Q E q => F.len vs H Q E (h _ _ _ _ q), fun A outer s H args us vs Q E hr he hb hv hs => F.run A outer s H args us vs Q E hr he hb hv (h _ _ _ _ hs)⟩
theorem Env0.in1 {P : Program} {w : World} {K : PySem.W.Frag} {mg : Str → Option Value} {base : Heap} {A : Around} {outer : List Env} {s : Shared} {H : Hp} (e : Env0 P w K mg base A outer s H) :
    Env0 P w K mg base A.in1 outer s H := ⟨e.frames, e.mod, e.bs, e.bsz, e.funs, e.frf, e.hok, e.bare⟩
section
variable {X : Cx} {pins : List (Addr × Obj)} {σ : St} {H : Hp} {s s' : Shared}
theorem Inv.env0 (I : Inv X pins σ H s) : Env0 X.prog X.w X.K X.mg X.base X.A X.stack s H :=
  ⟨I.ok.frames, I.ok.mod, I.bs, Nat.le_trans I.ok.bsz I.sz, I.stack, I.stkFree, I.hok, I.bare⟩
theorem Inv.after {Q : VK} {u : Value} (I : Inv X pins σ H s) (h : CE X.stack X.prog X.w H s Q u s') : EP X pins σ Q u s' := by
  obtain ⟨v, H', os, bare, un, hok, r, q⟩ := h
  obtain ⟨hh, g, d, t, os'⟩ := s'
  obtain rfl : os' = s.os := os
  exact ⟨v, H', I.call (h' := hh) (g' := g) (d' := d) (t' := t) (ch := []) un hok bare (fun b z => absurd z (by simp)), r, q⟩
end
def tCall (sp : Sp) (dvs : List V) (E : XK) (t : TA) : TE := fun σ H Q => t σ H fun vs H1 => sp (vs ++ dvs) H1 Q E
def Binds (K : PySem.W.Frag) (fd : FuncData) (ps : List Str) (ds : List Value) : Prop :=
  ∀ (s : Shared) (us : List Value), K.In s.heap → (us ++ ds).length = ps.length → BindsTo s fd ⟨us, []⟩ (ps.zip (us ++ ds))
theorem Binds.all {K : PySem.W.Frag} {fd : FuncData} {ps : List Str} (h : ∀ us : List Value, us.length = ps.length → bindArgs fd ⟨us, []⟩ = pure (ps.zip us)) : Binds K fd ps [] := fun s us _ hl => by
  rw [List.append_nil] at hl ⊢
  exact .of_eq (h us hl)
def Passes (CX : CXT) (X : Cx) (E : XK) : Prop := ∀ (pins : List (Addr × Obj)) (σ : St) (H : Hp) (s : Shared) (e : Value) (s' : Shared), Inv X pins σ H s → CX X.stack H s E e s' → X.xe e s'
section
variable {X : Cx} {CX : CXT} {k : Nat} {f C : Addr} {fd : FuncData} {ps : List Str} {sp : Sp} {dvs : List V} {ds : List Value} {E : XK} {x m : Str} {p pos apos : Pos} {e o : Expr} {es : List Expr} {ta : TE} {t : TA}
theorem run_fn {pins : List (Addr × Obj)} {σ : St} {H : Hp} {s : Shared} {Q : VK} {us : List Value} {vs : List V} (F : FnOk X.prog X.w X.K X.mg X.base CX k f fd ps sp) (hr : Room k X.A) (hb : Binds X.K fd ps ds) (hd : Vals dvs ds) (hx : Passes CX X E)
    (I : Inv X pins σ H s) (r : Vals vs us) (h : sp (vs ++ dvs) H Q E) : wpAny (model X.prog X.w) X.A (call (.ref f) us) (EP X pins σ Q) X.xe s := by
  have r2 : Vals (vs ++ dvs) (us ++ ds) := r.append hd
  have hl : (us ++ ds).length = ps.length := by rw [← r2.length]; exact F.len _ _ _ _ h
  refine wpAny_call (codeAny_mono (F.run X.A X.stack s H ⟨us, []⟩ (us ++ ds) (vs ++ dvs) Q E hr I.env0 (hb s us I.kIn hl) r2 h) fun r s' hq => ?_)
  cases r with
  | error e => exact hx pins σ H s e s' I hq
  | ok fl =>
    cases fl with
    | ret u => exact I.after hq
    | next => exact False.elim hq
    | brk => exact False.elim hq
    | cont => exact False.elim hq
theorem pe_call (F : FnOk X.prog X.w X.K X.mg X.base CX k f fd ps sp) (hr : Room k X.A) (hg : Gl X x) (hm : X.mg x = some (.ref f)) (hk : PySem.W.keepIn X.K (.ref f) = true) (hb : Binds X.K fd ps ds) (hd : Vals dvs ds) (hx : Passes CX X E)
    (ha : PA X (e :: es) t) (hdb : (x == ("__debug__" : Str)) = false := by decide) (he : starEach (e :: es) X.env = (false, eval e X.env) :: starEach es X.env := by rfl) (hpl : (backTo pos (starEach es X.env)).any (·.1) = false := by rfl) :
    PE X (.Call (.Name x p) (e :: es) [] pos) (tCall sp dvs E t) := by
  intro pins s σ H Q I h
  refine wpAny_Call_Name_kw (ld_glob I hg hm ?_ hdb)
  refine PySem.W.callWith_K (h₀ := X.base) I.ok.mod.kin hk (thn (ha pos pins s σ H _ I h) fun us s1 ⟨vs, H1, I1, r, q⟩ => ⟨I1.kIn, ?_⟩) he hpl
  exact run_fn F hr hb hd hx I1 r q
structure Mk (K : PySem.W.Frag) (C f : Addr) : Prop where
  makes : PySem.W.makesIn K C = true
  init : PySem.W.findIn K (.ref C) "__init__" = some (some (.ref f))
  fn : PySem.W.isFn K (.ref f) = true
  kp : PySem.W.keepIn K (.ref C) = true
end
section
variable {X : Cx} {CX : CXT} {k : Nat} {f C : Addr} {fd : FuncData} {ps ks : List Str} {sp : Sp} {E : XK} {x m : Str} {p pos apos kpos : Pos} {e o : Expr} {es : List Expr} {kws : List Keyword} {te ta : TE} {t tk : TA} {nm : Option Str}
structure KBinds (K : PySem.W.Frag) (fd : FuncData) (ps ks : List Str) (g : List Value → List Value → List Value) (gV : List V → List V → List V) : Prop where
  to : ∀ (s : Shared) (us ws : List Value), K.In s.heap → (g us ws).length = ps.length → BindsTo s fd ⟨us, ks.zip ws⟩ (ps.zip (g us ws))
  rel : ∀ {vs : List V} {us : List Value} {zs : List V} {ws : List Value}, Vals vs us → Vals zs ws → Vals (gV vs zs) (g us ws)
variable {g : List Value → List Value → List Value} {gV : List V → List V → List V}
end
structure FnScope (N P : List Str) (sc : Scope) : Prop where
  kind : sc.kind = .function
  co : sc.isCoroutine = false
  gen : sc.isGenerator = false
  nd : N.Nodup
  pre : N.take P.length = P
  par : ∀ x ∈ P, sc.names.lookup x = some .local ∨ sc.names.lookup x = some .cell
  nofree : ∀ y ∈ sc.names, y.2 ≠ .free
theorem bindL_out {kindOf : Str → Option NameKind} {x : Str} : ∀ {binds : List (Str × Value)} {m : Str → Option Value}, (∀ v, (x, v) ∉ binds) → bindL kindOf binds m x = m x
  | [], _, _ => rfl
  | (n, v) :: r, m, h => by
    unfold bindL
    rw [bindL_out fun w hw => h w (List.mem_cons_of_mem _ hw)]
    split
    · have : x ≠ n := by rintro rfl; exact h v List.mem_cons_self
      simp [this]
    · rfl
theorem bindC_out {kindOf : Str → Option NameKind} {x : Str} : ∀ {binds : List (Str × Value)} {m : Str → Option Value}, (∀ v, (x, v) ∉ binds) → bindC kindOf binds m x = m x
  | [], _, _ => rfl
  | (n, v) :: r, m, h => by
    unfold bindC
    rw [bindC_out fun w hw => h w (List.mem_cons_of_mem _ hw)]
    split
    · rfl
    · have : x ≠ n := by rintro rfl; exact h v List.mem_cons_self
      simp [this]
theorem bindL_get {kindOf : Str → Option NameKind} {x : Str} {v : Value} : ∀ {P : List Str} {vs : List Value} {i : Nat} {m : Str → Option Value}, P.Nodup → P[i]? = some x → vs[i]? = some v → kindOf x = some .local →
    bindL kindOf (P.zip vs) m x = some v
  | [], _, _, _, _, h, _, _ => by simp at h
  | _ :: _, [], _, _, _, _, h, _ => by simp at h
  | p :: P, w :: vs, 0, m, nd, h1, h2, hk => by
    simp at h1 h2; subst h1; subst h2
    show bindL kindOf ((p, w) :: P.zip vs) m p = _
    unfold bindL
    rw [bindL_out fun v hv => (List.nodup_cons.mp nd).1 (List.of_mem_zip hv).1, if_pos hk]
    simp
  | p :: P, w :: vs, i + 1, m, nd, h1, h2, hk => by
    show bindL kindOf ((p, w) :: P.zip vs) m x = _
    unfold bindL
    exact bindL_get (i := i) (List.nodup_cons.mp nd).2 (by simpa using h1) (by simpa using h2) hk
theorem bindC_get {kindOf : Str → Option NameKind} {x : Str} {v : Value} : ∀ {P : List Str} {vs : List Value} {i : Nat} {m : Str → Option Value}, P.Nodup → P[i]? = some x → vs[i]? = some v → kindOf x ≠ some .local →
    bindC kindOf (P.zip vs) m x = some v
  | [], _, _, _, _, h, _, _ => by simp at h
  | _ :: _, [], _, _, _, _, h, _ => by simp at h
  | p :: P, w :: vs, 0, m, nd, h1, h2, hk => by
    simp at h1 h2; subst h1; subst h2
    show bindC kindOf ((p, w) :: P.zip vs) m p = _
    unfold bindC
    rw [bindC_out fun v hv => (List.nodup_cons.mp nd).1 (List.of_mem_zip hv).1, if_neg hk]
    simp
  | p :: P, w :: vs, i + 1, m, nd, h1, h2, hk => by
    show bindC kindOf ((p, w) :: P.zip vs) m x = _
    unfold bindC
    exact bindC_get (i := i) (List.nodup_cons.mp nd).2 (by simpa using h1) (by simpa using h2) hk
def start (N : List Str) (vs : List V) : St := vs.map some ++ List.replicate (N.length - vs.length) none
def cxOf (CX : CXT) (P : Program) (w : World) (K : PySem.W.Frag) (mg : Str → Option Value) (base : Heap) (N : List Str) (qual : Str) (scope : Scope) (f : Addr) (cd : Value) (A : Around) (outer : List Env) (s : Shared) (H : Hp) (E : XK) : Cx where
  prog := P
  w := w
  K := K
  mg := mg
  base := base
  A := A.deeper (envOfC qual scope s.heap.objs.size f cd)
  N := N
  s₀ := s
  H₀ := H
  env := envOfC qual scope s.heap.objs.size f cd
  outer := outer
  stack := envOfC qual scope s.heap.objs.size f cd :: outer
  ex := []
  calm := true
  fn := fun _ => true
  pn := []
  xe := fun e s' => wpAny (model P w) (A.deeper (envOfC qual scope s.heap.objs.size f cd)) (leaving (envOfC qual scope s.heap.objs.size f cd) e) (fun _ s'' => CX outer H s E e s'') (fun e' s'' => CX outer H s E e' s'') s'
theorem cell_has {sc : Scope} {n : Nat} {x : Str} (h : sc.names.lookup x = some .cell) : ∃ c, (cellsFrom n sc.names []).lookup x = some c := by
  have q := PySem.W.cellsFrom_some sc.names n [] (.inl h)
  exact Option.isSome_iff_exists.mp q
theorem inv_start {CX : CXT} {P : Program} {w : World} {K : PySem.W.Frag} {mg : Str → Option Value} {base : Heap} {N ps : List Str} {qual : Str} {scope : Scope} {f : Addr} {cd : Value} {A : Around} {outer : List Env} {s s1 : Shared} {H : Hp} {E : XK} {us : List Value} {vs : List V}
    (S : FnScope N ps scope) (hd : A.handled = none) (e0 : Env0 P w K mg base A outer s H) (hl : vs.length = ps.length) (r : Vals vs us)
    (x : InCallC s s.heap.objs.size (bindL (envOfC qual scope s.heap.objs.size f cd).kindOf (ps.zip us) fun _ => none) (cellsFrom (s.heap.objs.size + 1) scope.names []) (bindC (envOfC qual scope s.heap.objs.size f cd).kindOf (ps.zip us) fun _ => none) s1) :
    Inv (cxOf CX P w K mg base N qual scope f cd A outer s H E) [] (start N vs) H s1 := by
  have hpl : ps.length ≤ N.length := by have := congrArg List.length S.pre; rw [List.length_take] at this; omega
  obtain ⟨h1, tk, rfl, hk⟩ := x.done
  have noA : ∀ b : Addr, b ∉ (cxOf CX P w K mg base N qual scope f cd A outer s H E).ex := fun b z => absurd (show b ∈ ([] : List Addr) from z) (by simp)
  refine ⟨⟨e0.mod, S.kind, rfl, rfl, Nat.le_refl _, fun y z c h1 h2 => ?_, fun y hy => ?_, fun y c _ h => ?_, fun _ => hd, Around.frames_deeper e0.frames, .inr ⟨rfl, rfl⟩, fun b z => absurd z (noA b), e0.bs, e0.bsz, fun b _ _ => noA b, fun b z => absurd z (noA b), e0.funs, e0.frf⟩,
    rfl, e0.bare, Un.kept hk, ⟨_, x.toInCall.ns, fun i y v h1 h2 h3 => ?_⟩, fun y c h => ⟨_, x.cell y c h⟩, e0.hok.fresh (Nat.le_refl _), fun y c h => ?_, fun p hp => absurd (show p ∈ ([] : List (Addr × Obj)) from hp) (by simp), e0.hok.kept hk, ?_⟩
  · exact name_of_addr x.apart (PySem.mem_of_lookup h1) (PySem.mem_of_lookup h2)
  · have hy : scope.names.lookup y = some .cell ∨ scope.names.lookup y = some .free := hy
    rcases hy with hy | hy
    · exact cell_has hy
    · exact absurd rfl (S.nofree _ (PySem.mem_of_lookup hy))
  · exact Nat.le_of_lt (x.above y c (PySem.mem_of_lookup h))
  · have hi : i < vs.length := by
      unfold start at h2
      by_cases hi : i < vs.length
      · exact hi
      · rw [List.getElem?_append_right (by simpa using hi)] at h2
        rw [List.getElem?_replicate] at h2
        split at h2 <;> cases h2
    have ha : vs[i]? = some v := by
      unfold start at h2
      rw [List.getElem?_append_left (by simpa using hi), List.getElem?_map] at h2
      cases e : vs[i]? with
      | none => rw [e] at h2; cases h2
      | some a => rw [e] at h2; cases h2; rfl
    obtain ⟨u, hu, rv⟩ := r.get ha
    have hp : ps[i]? = some y := by
      rw [← S.pre, List.getElem?_take_of_lt (by omega)]; exact h1
    have ndP : ps.Nodup := by rw [← S.pre]; exact S.nd.sublist (List.take_sublist _ _)
    refine ⟨u, rv, ?_⟩
    rcases S.par y (List.mem_of_getElem? hp) with k | k
    · exact .inl ⟨k, bindL_get ndP hp hu k⟩
    · obtain ⟨c, e⟩ := cell_has (n := s.heap.objs.size + 1) k
      refine .inr ⟨.inl k, c, e, ?_⟩
      have q := x.cell y c e
      rw [bindC_get ndP hp hu (by show scope.names.lookup y ≠ _; rw [k]; decide)] at q
      exact q
  · exact e0.hok.fresh (Nat.le_of_lt (x.above y c (PySem.mem_of_lookup h)))
  · unfold start
    show _ = N.length
    rw [List.length_append, List.length_map, List.length_replicate]
    omega
theorem fn_of {CX : CXT} {P : Program} {w : World} {K : PySem.W.Frag} {mg : Str → Option Value} {base : Heap} {k : Nat} {f : Addr} {name qual : Str} {params : Arguments} {body : List Stmt} {scope : Scope} {dV kV doc pm cdv ct oc : Value} {an od : Option Addr}
    {osl : Array (Option Value)} {N ps : List Str} {sp : Sp} (lk : K.lookup f = some ⟨oc, od, .func (PySem.W.fnOf name qual params body scope dV kV doc pm an cdv ct), osl⟩) (hcd : PySem.W.codeIn K cdv qual = true) (S : FnScope N ps scope)
    (len : ∀ vs H Q E, sp vs H Q E → vs.length = ps.length)
    (hbody : ∀ (A : Around) (outer : List Env) (s : Shared) (H : Hp) (vs : List V) (Q : VK) (E : XK), Room k (A.deeper (envOfC qual scope s.heap.objs.size f cdv)) → sp vs H Q E →
      ∃ t, PSs (cxOf CX P w K mg base N qual scope f cdv A outer s H E) body t ∧ t { nx := fun _ H' => Q .non H', rt := Q } (start N vs) H) :
    FnOk P w K mg base CX (k + 1) f (PySem.W.fnOf name qual params body scope dV kV doc pm an cdv ct) ps sp := by
  refine ⟨len, fun A outer s H args us vs Q E hr e0 hb r hsp => ?_⟩
  have hl := len _ _ _ _ hsp
  have KX : K.In s.heap := e0.mod.kin.keeps fun b o e => (e0.bs b o e).1
  have lim : s.heap.NoLimit := e0.mod.nolimit.keeps fun b o e => (e0.bs b o e).1
  have hkind : ∀ y ∈ ps.zip us, scope.names.lookup y.1 = some .local ∨ (scope.names.lookup y.1 = some .cell ∧ ((cellsFrom (s.heap.objs.size + 1) scope.names []).lookup y.1).isSome = true) := fun ⟨n, v⟩ hy => by
    rcases S.par n (List.of_mem_zip hy).1 with q | q
    · exact .inl q
    · exact .inr ⟨q, PySem.W.cellsFrom_some _ _ _ (.inl q)⟩
  refine codeAny_call_function hr.depth (KX _ _ lk) rfl S.co S.gen rfl (PySem.W.codeRec_of KX hcd) (hb _ _ _ _ ?_)
  refine wpAny_newFunctionEnv_cells S.kind hkind fun env he s1 x => ?_
  subst he
  refine ⟨lim.keeps x.toInCall.keep, codeAny_func ?_⟩
  obtain ⟨t, ht, hq⟩ := hbody A outer s H vs Q E (hr.deeper _) hsp
  have I : Inv (cxOf CX P w K mg base N qual scope f cdv A outer s H E) [] (start N vs) H s1 := inv_start S hr.hd e0 hl r x
  refine wpAny_mono (ht [] s1 (start N vs) H _ I hq) (fun fl s' hs => ?_) fun e s' hs => hs
  have fin : ∀ {σ' : St} {H' : Hp} {v : V} {u : Value}, Inv (cxOf CX P w K mg base N qual scope f cdv A outer s H E) [] σ' H' s' → RelV v u → Q v H' → CE outer P w H s Q u s' :=
    fun {σ' H' v u} J rv q => ⟨v, H', J.os, J.bare, J.base, J.hok, rv, q⟩
  cases fl with
  | ret u =>
    obtain ⟨v, σ', H', J, rv, q⟩ := hs
    exact fin J rv q
  | next =>
    obtain ⟨σ', H', J, q⟩ := hs
    exact fin (v := V.non) (u := Value.none) J rfl q
  | brk =>
    obtain ⟨_, _, _, q⟩ := hs
    exact False.elim q
  | cont =>
    obtain ⟨_, _, _, q⟩ := hs
    exact False.elim q
end L2
namespace L2
open PySem PySem.Spec PyProof.Rows
section
variable {X : Cx} {x : Str} {p pos : Pos} {e : Expr} {es : List Expr} {t : TA} {id T : String} {r : List V → Hp → VK → Prop}
def tCB (r : List V → Hp → VK → Prop) (t : TA) : TE := fun σ H Q => t σ H fun vs H1 => r vs H1 Q
theorem pe_callB (hc : CallR X (.builtin id) r) (hg : Gl X x) (hm : X.mg x = none) (hv : bootBuiltins x = some (.builtin id)) (ha : PA X (e :: es) t) (hn : x ≠ "__name__" := by decide) (hdb : (x == ("__debug__" : Str)) = false := by decide)
    (he : starEach (e :: es) X.env = (false, eval e X.env) :: starEach es X.env := by rfl) (hpl : (backTo pos (starEach es X.env)).any (·.1) = false := by rfl) : PE X (.Call (.Name x p) (e :: es) [] pos) (tCB r t) := by
  intro pins s σ H Q I h
  refine wpAny_Call_Name_kw (ld_blt I hg hm hv ?_ hn hdb)
  exact PyProof.Rows.callWith_builtin1 (thn (ha pos pins s σ H _ I h) fun us s1 ⟨vs, H1, I1, r1, q1⟩ => hc pins s1 σ H1 vs us Q I1 r1 q1) he hpl
theorem pe_callTy (hc : CallR X (.type T) r) (hg : Gl X x) (hm : X.mg x = none) (hv : bootBuiltins x = some (.type T)) (ha : PA X (e :: es) t) (hn : x ≠ "__name__" := by decide) (hdb : (x == ("__debug__" : Str)) = false := by decide)
    (he : starEach (e :: es) X.env = (false, eval e X.env) :: starEach es X.env := by rfl) (hpl : (backTo pos (starEach es X.env)).any (·.1) = false := by rfl) : PE X (.Call (.Name x p) (e :: es) [] pos) (tCB r t) := by
  intro pins s σ H Q I h
  refine wpAny_Call_Name_kw (ld_blt I hg hm hv ?_ hn hdb)
  exact PyProof.Rows.callWith_type1 (thn (ha pos pins s σ H _ I h) fun us s1 ⟨vs, H1, I1, r1, q1⟩ => hc pins s1 σ H1 vs us Q I1 r1 q1) he hpl
end
end L2
namespace HT
open PySem PyProof.Rows
section
open PySem.SeqAt
open PySem.AutoSeq1 (wpAny_loadPart')
open PySem.MeetsSeq PySem.MeetsSeq2 PySem.MeetsSeq3
end
section
variable {prog : Program} {w : World} {A : Around} {E : Value → Shared → Prop} {s : Shared}
theorem cat_tup {t b : Addr} {vs ws : List Value} {Q : Value → Shared → Prop} (ht : IsTup s.heap t vs.toArray) (hb : IsTup s.heap b ws.toArray) (hv : vs ≠ [])
    (h1 : ws = [] → Q (.ref t) s) (h2 : ws ≠ [] → Q (.ref s.heap.objs.size) { s with heap := s.heap.push { cls := .type "tuple", data := .seq (vs ++ ws).toArray } })
    (hsz : vs.length + ws.length ≤ sizeLine) : wpAny (model prog w) A (binaryOp .Add (.ref t) (.ref b)) Q E s := by
  obtain ⟨⟨cls, dd, data, sl⟩, ho, hc, n, hd⟩ := id ht
  obtain ⟨⟨cls2, dd2, data2, sl2⟩, ho2, hc2, n2, hd2⟩ := id hb
  simp only at hc hd hc2 hd2
  subst hc hd hc2 hd2
  have e : vs.toArray ++ ws.toArray = (vs ++ ws).toArray := by simp
  by_cases hw : ws = []
  · exact concat_meets ⟨_, ho, rfl⟩ ⟨_, ho2, rfl⟩ noFill_tuple_add seq_tuple_add PySem.F.slot_tuple_add PySem.F.entry_tuple_add (PySem.F.args_tuple_add_2 _ _)
      (tuple_addW1 t b vs.toArray ws.toArray n n2 dd dd2 sl sl2 (by simpa using hv) (by simp [hw])) ⟨ho, ho2, h1 hw⟩
  · refine concat_meets ⟨_, ho, rfl⟩ ⟨_, ho2, rfl⟩ noFill_tuple_add seq_tuple_add PySem.F.slot_tuple_add PySem.F.entry_tuple_add (PySem.F.args_tuple_add_2 _ _)
      (tuple_addW2 t b vs.toArray ws.toArray n n2 dd dd2 sl sl2 (by simpa using hv) (by simpa using hw) (by rw [List.size_toArray, List.size_toArray]; exact hsz)) ⟨ho, ho2, ?_⟩
    rw [e]
    exact h2 hw
def sIx (n d : Nat) : Option Int → Nat
  | none => d
  | some v => if v < 0 then (v + (n : Int)).toNat else min v.toNat n
theorem sIx_le (n d : Nat) (hd : d ≤ n) (o : Option Int) : sIx n d o ≤ n := by
  cases o with
  | none => exact hd
  | some v =>
    show (if v < 0 then (v + (n : Int)).toNat else min v.toNat n) ≤ n
    by_cases hv : v < 0
    · rw [if_pos hv]; omega
    · rw [if_neg hv]; exact Nat.min_le_right _ _
theorem clip_eq (v : Int) (n d : Nat) : (if v < 0 then max (v + (n : Int)) 0 else min v (n : Int)) = ((sIx n d (some v) : Nat) : Int) := by
  show (if v < 0 then max (v + (n : Int)) 0 else min v (n : Int)) = (((if v < 0 then (v + (n : Int)).toNat else min v.toNat n) : Nat) : Int)
  by_cases hv : v < 0
  · simp only [if_pos hv]; omega
  · simp only [if_neg hv]; omega
theorem adjust_gen (lo hi : Option Int) (n : Nat) : Builtin.Slice.sliceAdjust lo hi 1 (n : Int) = (((sIx n 0 lo : Nat) : Int), ((sIx n n hi : Nat) : Int)) := by
  have h1 : ¬ ((1 : Int) < 0) := by omega
  unfold Builtin.Slice.sliceAdjust
  simp only [h1, if_false]
  refine Prod.ext ?_ ?_
  · cases lo with
    | none => rfl
    | some v => exact clip_eq v n 0
  · cases hi with
    | none => rfl
    | some v => exact clip_eq v n n
theorem places_gen (i j : Nat) : Builtin.Slice.slicePlaces (i : Int) (j : Int) 1 = j - i := by
  unfold Builtin.Slice.slicePlaces
  have h1 : (1 : Int) > 0 := by omega
  simp only [h1, if_true, Int.ediv_one]
  split <;> omega
theorem slicePart_ {v : Value} {o : Option Int} {Q : Option Int → Shared → Prop} (p : IsPart v o) (h : Q o s) : wpAny (model prog w) A (Builtin.Slice.slicePartIndex v) Q E s := by
  cases p with
  | none => exact slicePart_none h
  | int i t => exact slicePart_int h
theorem sliceApplied_gen {sl : Addr} {vl vu : Value} {lo hi : Option Int} {n : Nat} {Q : Int × Int × Nat → Shared → Prop} (hs : s.heap.IsSliceOf sl vl vu .none) (pl : IsPart vl lo) (pu : IsPart vu hi)
    (h : Q (((sIx n 0 lo : Nat) : Int), 1, sIx n n hi - sIx n 0 lo) s) : wpAny (model prog w) A (Builtin.Slice.sliceApplied (.ref sl) (pure (n : Int))) Q E s := by
  obtain ⟨os, hos, hcs, hds⟩ := id hs
  unfold Builtin.Slice.sliceApplied Builtin.Slice.sliceFields
  refine wpAny_bind (wpAny_bind (wpAny_field hos hds (x := vl) rfl (wpAny_bind (wpAny_field hos hds (x := vu) rfl (wpAny_bind (wpAny_field hos hds (x := .none) rfl (wpAny_pure ?_)))))))
  refine wpAny_bind (slicePart_none ?_)
  show wpAny _ _ (if ((1 : Int) == 0) = true then _ else _) _ _ s
  rw [if_neg (by decide)]
  refine wpAny_bind (slicePart_ pl (wpAny_bind (slicePart_ pu (wpAny_bind (wpAny_pure ?_)))))
  show wpAny _ _ (match Builtin.Slice.sliceAdjust lo hi 1 (n : Int) with | (lo, hi) => pure (lo, (1 : Int), Builtin.Slice.slicePlaces lo hi 1)) _ _ s
  rw [adjust_gen lo hi n]
  show wpAny _ _ (pure (((sIx n 0 lo : Nat) : Int), (1 : Int), Builtin.Slice.slicePlaces ((sIx n 0 lo : Nat) : Int) ((sIx n n hi : Nat) : Int) 1)) _ _ s
  rw [places_gen]
  exact wpAny_pure h
theorem pick_gen (xs : Array Value) (i k : Nat) : ((List.range k).filterMap fun (m : Nat) => xs[((i : Int) + (m : Int) * 1).toNat]?).toArray = ((xs.toList.drop i).take k).toArray := by
  have e : (fun (m : Nat) => xs[((i : Int) + (m : Int) * 1).toNat]?) = fun m => xs[i + m]? := by
    funext m
    have : ((i : Int) + (m : Int) * 1).toNat = i + m := by omega
    rw [this]
  rw [e]
  have := pick_run xs i k
  rw [List.filterMap_map] at this
  have e2 : ((fun x => xs[x]?) ∘ fun x => i + x) = fun m => xs[i + m]? := rfl
  rw [e2] at this
  rw [this]
theorem getItem_tuple_cut {t sl : Addr} {items : Array Value} {vl vu : Value} {lo hi : Option Int} {Q : Value → Shared → Prop} (ht : IsTup s.heap t items) (hs : s.heap.IsSliceOf sl vl vu .none) (pl : IsPart vl lo) (pu : IsPart vu hi)
    (hw : ¬ (sIx items.size 0 lo = 0 ∧ sIx items.size items.size hi = items.size))
    (h : Q (.ref s.heap.objs.size) { s with heap := s.heap.push { cls := .type "tuple", data := .seq ((items.toList.drop (sIx items.size 0 lo)).take (sIx items.size items.size hi - sIx items.size 0 lo)).toArray } })
    (hsz : items.size ≤ sizeLine) : wpAny (model prog w) A (getItem (.ref t) (.ref sl)) Q E s := by
  have htake : sizeOk (.seq ((items.toList.drop (sIx items.size 0 lo)).take (sIx items.size items.size hi - sIx items.size 0 lo)).toArray) := by
    show ((items.toList.drop (sIx items.size 0 lo)).take (sIx items.size items.size hi - sIx items.size 0 lo)).toArray.size ≤ sizeLine
    rw [List.size_toArray, List.length_take, List.length_drop, Array.length_toList]
    omega
  have hj : sIx items.size items.size hi ≤ items.size := sIx_le _ _ (Nat.le_refl _) hi
  obtain ⟨os, hos, hcs, hds⟩ := id hs
  have hTs : s.TypeIs (.ref sl) "slice" := ⟨os, hos, hcs⟩
  unfold getItem
  try with_reducible refine wpAny_holding ?_
  first | refine wpAny_bind (wpAny_pure ?_) | skip
  refine wpAny_bind (wpAny_sequenceKey ht.typeIs (by decide) ?_)
  refine wpAny_bind (wpAny_callSpecial?_slot (name := Str.ofString "__getitem__") ht.typeIs PyProof.Rows.slot_tuple_getitem
    (wpAny_call_entry PyProof.Rows.slot_tuple_getitem ht.typeIs entry_tuple_getitem ?_ (args_tuple_getitem _ _)))
  show wpAny _ _ (Builtin.Tuple.tupleItemsOf (.ref t) >>= _) _ _ s
  refine wpAny_bind (tupleItemsOf_ ht ?_)
  refine wpAny_bind (wpAny_typeOf hTs ?_)
  rw [if_pos (by decide)]
  refine wpAny_bind (sliceApplied_gen hs pl pu ?_)
  have hno : ¬ ((((sIx items.size 0 lo : Nat) : Int) == 0 && (1 : Int) == 1 && (sIx items.size items.size hi - sIx items.size 0 lo) == items.size) = true) := by
    intro q
    rw [Bool.and_eq_true, Bool.and_eq_true] at q
    have q1 : ((sIx items.size 0 lo : Nat) : Int) = 0 := eq_of_beq q.1.1
    have q2 : sIx items.size items.size hi - sIx items.size 0 lo = items.size := eq_of_beq q.2
    exact hw ⟨by omega, by omega⟩
  show wpAny _ _ (if (((sIx items.size 0 lo : Nat) : Int) == 0 && (1 : Int) == 1 && (sIx items.size items.size hi - sIx items.size 0 lo) == items.size) = true then _ else _) _ _ s
  rw [if_neg hno, pick_gen]
  first
    | exact wpAny_bind (m := Builtin.Tuple.tupleExact _) (wpAny_newObj_type (wpAny_pure ⟨_, rfl, wpAny_pure h⟩) htake)
    | exact wpAny_bind (m := Builtin.Tuple.tupleExact _) (wpAny_newObj_type (wpAny_bind (wpAny_pure (wpAny_pure ⟨_, rfl, wpAny_pure h⟩))) htake)
    | exact wpAny_bind (wpAny_bind (m := Builtin.Tuple.tupleExact _) (wpAny_newObj_type (wpAny_pure (wpAny_pure ⟨_, rfl, wpAny_pure h⟩)) htake))
    | exact wpAny_bind (wpAny_bind (m := Builtin.Tuple.tupleExact _) (wpAny_newObj_type (wpAny_pure ⟨_, rfl, wpAny_pure h⟩) htake))
end
end HT
namespace L2
open PySem PySem.Spec PyProof.Rows
abbrev TO := St → Hp → (Option Int → Hp → Prop) → Prop
def PO (X : Cx) (e : Option Expr) (t : TO) : Prop :=
  ∀ (pins : List (Addr × Obj)) (s : Shared) (σ : St) (H : Hp) (Q : Option Int → Hp → Prop), Inv X pins σ H s → t σ H Q →
    wpAny (model X.prog X.w) X.A (evalPart e X.env) (fun u s' => ∃ o H', Inv X pins σ H' s' ∧ IsPart u o ∧ Q o H') X.xe s
def tNoPart : TO := fun _ H Q => Q none H
def tPart (t : TE) : TO := fun σ H Q => t σ H fun x H1 => ∃ i, x = .int i ∧ Q (some i) H1
theorem intsAre_of {ns : List Int} : ∀ {us : List Value}, Vals (ns.map V.int) us → IntsAre us ns := by
  induction ns with
  | nil => intro us r; rw [List.map_nil] at r; cases r; exact .nil
  | cons n ns ih =>
    intro us r
    rw [List.map_cons] at r
    cases r with
    | cons r1 r2 =>
      obtain ⟨t, e⟩ := r1
      subst e
      exact .cons n t (ih r2)
section
variable {X : Cx} {e : Expr} {te : TE} {lo hi : Option Expr} {tl th : TO} {pos p2 : Pos}
theorem po_none : PO X none tNoPart := by
  intro pins s σ H Q I h
  rw [evalPart_none]
  exact wpAny_pure ⟨none, H, I, .none, h⟩
theorem po_some (h : PE X e te) : PO X (some e) (tPart te) := by
  intro pins s σ H Q I hw
  rw [evalPart_some]
  refine thn (h pins s σ H _ I hw) fun u s1 ⟨x, H1, I1, r1, q1⟩ => ?_
  obtain ⟨i, rfl, q⟩ := q1
  obtain ⟨t, rfl⟩ := r1
  exact ⟨some i, H1, I1, .int i t, q⟩
def SlR (X : Cx) (r : V → Option Int → Option Int → Hp → VK → Prop) : Prop :=
  ∀ (pins : List (Addr × Obj)) (s : Shared) (σ : St) (H : Hp) (x : V) (v vl vu : Value) (lo hi : Option Int) (sl : Addr) (Q : VK), Inv X pins σ H s → RelV x v → s.heap.IsSliceOf sl vl vu .none → IsPart vl lo → IsPart vu hi → r x lo hi H Q →
    ∃ T id, typeLookup (.type T) "__getitem__" = pure (some (.builtin id)) ∧ s.TypeIs v T ∧ wpAny (model X.prog X.w) X.A (getItem v (.ref sl)) (EP X pins σ Q) X.xe s
def tSl (r : V → Option Int → Option Int → Hp → VK → Prop) (te : TE) (tl th : TO) : TE := fun σ H Q => te σ H fun x H1 => tl σ H1 fun l H2 => th σ H2 fun u H3 => r x l u H3 Q
theorem pe_slice {r : V → Option Int → Option Int → Hp → VK → Prop} (hr : SlR X r) (he : PE X e te) (hl : PO X lo tl) (hu : PO X hi th) : PE X (.Subscript e (.Slice lo hi none p2) pos) (tSl r te tl th) := by
  intro pins s σ H Q I h
  refine Subscript_ (thn (he pins s σ H _ I h) fun v s1 ⟨x, H1, I1, r1, q1⟩ => ?_)
  refine wpAny_Slice (thn (hl pins s1 σ H1 _ I1 q1) fun vl s2 ⟨l, H2, I2, pl, q2⟩ => thn (hu pins s2 σ H2 _ I2 q2) fun vu s3 ⟨u, H3, I3, pu, q3⟩ => ?_)
  rw [evalPart_none]
  refine wpAny_pure ?_
  have I4 : Inv X pins σ H3 { s3 with heap := s3.heap.push { cls := .type "slice", data := .fields #[vl, vu, .none] } } := I3.kept (t' := s3.toks) fun b ob q => Heap.get?_push_of_some _ q
  obtain ⟨T, id, hT, ht, hg⟩ := hr pins { s3 with heap := s3.heap.push { cls := .type "slice", data := .fields #[vl, vu, .none] } } σ H3 x v vl vu l u s3.heap.objs.size Q I4 r1 (Heap.IsSliceOf.new ..) pl pu q3
  show wpAny (model X.prog X.w) X.A (subscriptTail e (.Slice lo hi none p2) v (.ref s3.heap.objs.size)) (EP X pins σ Q) X.xe { s3 with heap := s3.heap.push { cls := .type "slice", data := .fields #[vl, vu, .none] } }
  exact tail_any (ops := [.ref s3.heap.objs.size, v]) ht hT hg (by with_unfolding_all rfl)
def cutV (xs : List V) (lo hi : Option Int) : List V := (xs.drop (HT.sIx xs.length 0 lo)).take (HT.sIx xs.length xs.length hi - HT.sIx xs.length 0 lo)
theorem cutV_length (xs : List V) (lo hi : Option Int) : (cutV xs lo hi).length ≤ xs.length := by
  unfold cutV
  rw [List.length_take, List.length_drop]
  omega
def rSlT (K : PySem.W.Frag) : V → Option Int → Option Int → Hp → VK → Prop := fun x lo hi H Q => ∃ a xs, x = .ref a ∧ SqT K H a xs ∧
  ¬ (HT.sIx xs.length 0 lo = 0 ∧ HT.sIx xs.length xs.length hi = xs.length) ∧ ∀ p, H p = none → Q (.ref p) (upd H p (.tup (cutV xs lo hi)))
theorem sl_tup : SlR X (rSlT X.K) := by
  intro pins s σ H x v vl vu lo hi sl Q I rx hs pl pu h
  obtain ⟨a, xs, rfl, hx, hw, q⟩ := h
  cases rx
  obtain ⟨its, r, ht, hz⟩ := I.tuple hx
  have hlen : its.toArray.size = xs.length := by rw [List.size_toArray]; exact r.length.symm
  refine ⟨"tuple", _, PyProof.Rows.slot_tuple_getitem.lookup, ht.typeIs, ?_⟩
  refine HT.getItem_tuple_cut ht hs pl pu (by rw [hlen]; exact hw) ?_ (by rw [hlen]; exact hz)
  rw [hlen]
  refine ⟨.ref s.heap.objs.size, _, I.laid (t' := s.toks) (o := .tup (cutV xs lo hi)) (fun b ob q => Heap.get?_push_of_some _ q) (Nat.le_refl _) ?_, rfl, q _ (I.hok.fresh (Nat.le_refl _))⟩
  exact ⟨Nat.le_trans (cutV_length xs lo hi) hz, _, (r.drop (HT.sIx xs.length 0 lo)).take (HT.sIx xs.length xs.length hi - HT.sIx xs.length 0 lo), IsTup.new _ _⟩
def rCatT (K : PySem.W.Frag) : R2 := fun x y H Q => ∃ a b xs ys, x = .ref a ∧ y = .ref b ∧ SqT K H a xs ∧ SqT K H b ys ∧ xs ≠ [] ∧ xs.length + ys.length ≤ sizeLine ∧
  (ys = [] → Q (.ref a) H) ∧ (ys ≠ [] → ∀ p, H p = none → Q (.ref p) (upd H p (.tup (xs ++ ys))))
theorem Vals.nil_iff {xs : List V} {us : List Value} (r : Vals xs us) : us = [] ↔ xs = [] := by
  cases r with
  | nil => simp
  | cons _ _ => simp
theorem op_catT : OpR X (binaryOp .Add) (rCatT X.K) := by
  intro pins s σ H x y v u Q I rx ry h
  obtain ⟨a, b, xs, ys, rfl, rfl, ha, hb, hx, hz, q1, q2⟩ := h
  cases rx
  cases ry
  obtain ⟨its, r1, p1, _⟩ := I.tuple ha
  obtain ⟨its2, r2, p2, _⟩ := I.tuple hb
  refine HT.cat_tup p1 p2 (fun z => hx (r1.nil_iff.mp z)) (fun z => ⟨.ref a, H, I, rfl, q1 (r2.nil_iff.mp z)⟩) (fun z => ?_) (by rw [← r1.length, ← r2.length]; exact hz)
  refine ⟨.ref s.heap.objs.size, _, I.laid (t' := s.toks) (o := .tup (xs ++ ys)) (fun b ob q => Heap.get?_push_of_some _ q) (Nat.le_refl _) ?_, rfl, q2 (fun w => z (r2.nil_iff.mpr w)) _ (I.hok.fresh (Nat.le_refl _))⟩
  exact ⟨by rw [List.length_append]; exact hz, _, r1.append r2, IsTup.new _ _⟩
end
end L2
namespace L2
open PySem PySem.Spec PyProof.Rows
def ixN (n : Nat) (i : Int) : Option Nat := if 0 ≤ i then (if i < n then some i.toNat else none) else if -(n : Int) ≤ i then some (i + n).toNat else none
def atI {α : Type} (xs : List α) (i : Int) : Option α := (ixN xs.length i).bind fun j => xs[j]?
theorem ixN_seq {n : Nat} {i : Int} {j : Nat} (h : ixN n i = some j) : seqIndex? i n = some j ∧ j < n ∧ -(n : Int) ≤ i ∧ i < n := by
  unfold ixN at h
  by_cases h0 : 0 ≤ i
  · rw [if_pos h0] at h
    by_cases h1 : i < n
    · rw [if_pos h1] at h
      have e : i.toNat = j := Option.some.inj h
      exact ⟨by rw [seqIndex_of h0 h1, e], by omega, by omega, h1⟩
    · rw [if_neg h1] at h; cases h
  · rw [if_neg h0] at h
    by_cases h1 : -(n : Int) ≤ i
    · rw [if_pos h1] at h
      have e : (i + n).toNat = j := Option.some.inj h
      exact ⟨by rw [seqIndex_neg (by omega) h1, e], by omega, h1, by omega⟩
    · rw [if_neg h1] at h; cases h
theorem atI_get {α : Type} {xs : List α} {i : Int} {v : α} (h : atI xs i = some v) : ∃ j, seqIndex? i xs.length = some j ∧ xs[j]? = some v ∧ j < xs.length ∧ -(xs.length : Int) ≤ i ∧ i < xs.length := by
  unfold atI at h
  cases e : ixN xs.length i with
  | none => rw [e] at h; cases h
  | some j =>
    rw [e] at h
    obtain ⟨h1, h2, h3, h4⟩ := ixN_seq e
    exact ⟨j, h1, h, h2, h3, h4⟩
theorem atI_nat {α : Type} {xs : List α} {j : Nat} {v : α} (h : xs[j]? = some v) : atI xs (j : Int) = some v := by
  have hj : j < xs.length := (List.getElem?_eq_some_iff.mp h).1
  have e : ixN xs.length (j : Int) = some j := by
    unfold ixN
    rw [if_pos (by omega), if_pos (by omega)]; simp
  unfold atI; rw [e]; exact h
def PlainIx (b : Expr) : Prop := ∀ o i, subscripted b false o i = operate [o, i] (getItem o i)
def IxR (X : Cx) (r : R2) : Prop :=
  ∀ (value slice : Expr) (pins : List (Addr × Obj)) (s : Shared) (σ : St) (H : Hp) (x y : V) (v u : Value) (Q : VK), Inv X pins σ H s → RelV x v → RelV y u → r x y H Q →
    subscripted slice false v u = operate [v, u] (getItem v u) → wpAny (model X.prog X.w) X.A (subscriptTail value slice v u) (EP X pins σ Q) X.xe s
def MtR (X : Cx) (id : String) (r : V → List V → Hp → VK → Prop) : Prop :=
  ∀ (pins : List (Addr × Obj)) (s : Shared) (σ : St) (H : Hp) (x : V) (xs : List V) (v : Value) (us : List Value) (Q : VK), Inv X pins σ H s → RelV x v → Vals xs us → r x xs H Q →
    wpAny (model X.prog X.w) X.A (call (.builtin id) (v :: us)) (EP X pins σ Q) X.xe s
section
variable {X : Cx} {a b : Expr} {ta tb : TE} {pos : Pos}
theorem pe_ix {r : R2} (hr : IxR X r) (ha : PE X a ta) (hb : PE X b tb) (hs : PlainIx b) : PE X (.Subscript a b pos) (tOp r ta tb) := by
  intro pins s σ H Q I h
  exact Subscript_ (binT ha hb I h fun v u s2 x y H2 I2 rx ry q => hr a b pins s2 σ H2 x y v u Q I2 rx ry q (hs _ _))
def rIxL (K : PySem.W.Frag) : R2 := fun x y H Q => ∃ p xs i v, x = .ref p ∧ y = .int i ∧ SqL K H p xs ∧ atI xs i = some v ∧ Q v H
def rIxT (K : PySem.W.Frag) : R2 := fun x y H Q => ∃ p xs i v, x = .ref p ∧ y = .int i ∧ SqT K H p xs ∧ atI xs i = some v ∧ Q v H
theorem ix_list : IxR X (rIxL X.K) := by
  intro value slice pins s σ H x y v u Q I rx ry h hs
  obtain ⟨p, xs, i, z, rfl, rfl, hq, he, q⟩ := h
  cases rx
  obtain ⟨t, rfl⟩ := ry
  obtain ⟨its, r, pl, hz⟩ := I.list hq
  obtain ⟨j, h1, h2, h3, h4, h5⟩ := atI_get he
  obtain ⟨w, ew, rw'⟩ := r.get h2
  have hl := r.length
  have hn := line63
  have fin : EP X pins σ Q w s := ⟨z, H, I, rw', q⟩
  by_cases h0 : 0 ≤ i
  · have hj : i.toNat = j := by
      rw [seqIndex_of h0 h5] at h1
      exact Option.some.inj h1
    exact item_listR pl.isList h0 (by omega) (by rw [hj]; simpa using ew) fin hs
  · have hj : (i + (its.toArray.size : Int)).toNat = j := by
      rw [seqIndex_neg (by omega) h4] at h1
      rw [List.size_toArray, ← hl]
      exact Option.some.inj h1
    exact subscriptTail_builtinR (x := w) pl.isList.typeIs slot_list_getitem.lookup
      (wpAny_getItem_list_neg (Q := fun r s' => r = w ∧ EP X pins σ Q r s') pl.isList (by omega) (by rw [List.size_toArray] <;> omega) (by omega) (by rw [hj]; simpa using ew) ⟨rfl, fin⟩) hs
theorem ix_tup : IxR X (rIxT X.K) := by
  intro value slice pins s σ H x y v u Q I rx ry h hs
  obtain ⟨p, xs, i, z, rfl, rfl, hq, he, q⟩ := h
  cases rx
  obtain ⟨t, rfl⟩ := ry
  obtain ⟨its, r, pl, hz⟩ := I.tuple hq
  obtain ⟨j, h1, h2, h3, h4, h5⟩ := atI_get he
  obtain ⟨w, ew, rw'⟩ := r.get h2
  have hl := r.length
  have hn := line63
  have fin : EP X pins σ Q w s := ⟨z, H, I, rw', q⟩
  exact subscriptTail_builtinR (x := w) pl.typeIs slot_tuple_getitem.lookup
    (getItem_tuple (j := j) (Q := fun r s' => r = w ∧ EP X pins σ Q r s') pl (by omega) (by omega) (by rw [List.size_toArray, ← hl]; exact h1) (by simpa using ew) ⟨rfl, fin⟩) hs
theorem Inv.lst {pins : List (Addr × Obj)} {σ : St} {H : Hp} {s : Shared} {p : Addr} {xs : List V} (I : Inv X pins σ H s) (h : H p = some (.lst xs)) :
    ∃ (its : List Value) (n : Nat), Vals xs its ∧ s.heap.get? p = some { cls := .type "list", data := .seq its.toArray n } ∧ xs.length ≤ sizeLine := by
  obtain ⟨z, its, n, r, e⟩ := I.hok p _ h
  exact ⟨its, n, r, e, z⟩
def rSetL : V → V → V → Hp → (Hp → Prop) → Prop := fun o i v H Q => ∃ p xs k j, o = .ref p ∧ i = .int k ∧ H p = some (.lst xs) ∧ ixN xs.length k = some j ∧ Q (upd H p (.lst (xs.set j v)))
theorem slice_bounds (lo hi : Option Int) (n : Nat) : (sliceBounds lo hi none n).1 = ((HT.sIx n 0 lo : Nat) : Int) ∧ (sliceBounds lo hi none n).2.1 = ((HT.sIx n n hi : Nat) : Int) ∧ (sliceBounds lo hi none n).2.2 = 1 := by
  refine ⟨?_, ?_, rfl⟩
  · cases lo with
    | none => simp [sliceBounds, HT.sIx]
    | some i =>
      simp only [sliceBounds, HT.sIx, Option.getD_none, show (1 : Int) > 0 by decide, if_true]
      by_cases h : i < 0
      · simp only [h, if_true] <;> omega
      · simp only [h, if_false] <;> omega
  · cases hi with
    | none => simp [sliceBounds, HT.sIx]
    | some i =>
      simp only [sliceBounds, HT.sIx, Option.getD_none, show (1 : Int) > 0 by decide, if_true]
      by_cases h : i < 0
      · simp only [h, if_true] <;> omega
      · simp only [h, if_false] <;> omega
theorem slicePick_cut (its : List Value) (lo hi : Option Int) : slicePick its.toArray lo hi none = ((its.drop (HT.sIx its.length 0 lo)).take (HT.sIx its.length its.length hi - HT.sIx its.length 0 lo)).toArray := by
  obtain ⟨h1, h2, h3⟩ := slice_bounds lo hi its.toArray.size
  unfold slicePick
  rw [h1, h2, h3]
  simp only [sliceRange_one, pick_run, List.size_toArray] <;> rfl
def rSlL (K : PySem.W.Frag) : V → Option Int → Option Int → Hp → VK → Prop := fun x lo hi H Q => ∃ a xs, x = .ref a ∧ SqL K H a xs ∧ ∀ p, H p = none → Q (.ref p) (upd H p (.lst (cutV xs lo hi)))
theorem sl_list : SlR X (rSlL X.K) := by
  intro pins s σ H x v vl vu lo hi sl Q I rx hs pl pu h
  obtain ⟨a, xs, rfl, hx, q⟩ := h
  cases rx
  obtain ⟨its, r, ht, hz⟩ := I.list hx
  have hlen := r.length
  refine ⟨"list", _, slot_list_getitem.lookup, ht.isList.typeIs, ?_⟩
  refine wpAny_getItem_list_slice ht.isList hs pl pu .none (by simp) ?_ (by rw [List.size_toArray] <;> omega)
  rw [slicePick_cut, ← hlen]
  refine ⟨.ref s.heap.objs.size, _, I.laid (t' := s.toks) (o := .lst (cutV xs lo hi)) (fun b ob q => Heap.get?_push_of_some _ q) (Nat.le_refl _) ?_, rfl, q _ (I.hok.fresh (Nat.le_refl _))⟩
  exact ⟨Nat.le_trans (cutV_length xs lo hi) hz, _, 0, (r.drop (HT.sIx xs.length 0 lo)).take (HT.sIx xs.length xs.length hi - HT.sIx xs.length 0 lo), Heap.get?_push_size _ rfl⟩
def flatV : V → Bool
  | .non => true
  | .bl _ => true
  | .int _ => true
  | .str _ => true
  | _ => false
def eqV : V → V → Bool
  | .non, .non => true
  | .bl a, .bl b => a == b
  | .bl a, .int b => (if a then 1 else 0) == b
  | .int a, .bl b => a == (if b then 1 else 0)
  | .int a, .int b => a == b
  | .str a, .str b => a == b
  | _, _ => false
theorem eqAt_V {A : Around} {s : Shared} {y x : V} {u v : Value} (ry : RelV y u) (rx : RelV x v) (fy : flatV y = true) (fx : flatV x = true) : SeqAt.EqAt A s u v (eqV y x) := by
  cases y with
  | non =>
    cases ry
    cases x with
    | non => cases rx; exact SeqAt.EqAt.same _
    | bl b => cases rx; exact SeqAt.EqAt.none_bool b
    | int b => obtain ⟨t, rfl⟩ := rx; exact SeqAt.EqAt.none_int b t
    | str b => obtain ⟨t, rfl⟩ := rx; exact SeqAt.EqAt.none_str b t
    | _ => exact absurd (show false = true from fx) Bool.false_ne_true
  | bl a =>
    cases ry
    cases x with
    | non => cases rx; exact SeqAt.EqAt.bool_none a
    | bl b => cases rx; exact SeqAt.EqAt.bool_bool a b
    | int b => obtain ⟨t, rfl⟩ := rx; exact SeqAt.EqAt.bool_int a b t
    | str b => obtain ⟨t, rfl⟩ := rx; exact SeqAt.EqAt.bool_str a b t
    | _ => exact absurd (show false = true from fx) Bool.false_ne_true
  | int a =>
    obtain ⟨t', rfl⟩ := ry
    cases x with
    | non => cases rx; exact SeqAt.EqAt.int_none a t'
    | bl b => cases rx; exact SeqAt.EqAt.int_bool a t' b
    | int b => obtain ⟨t, rfl⟩ := rx; exact SeqAt.EqAt.int_int a t' b t
    | str b => obtain ⟨t, rfl⟩ := rx; exact SeqAt.EqAt.int_str a t' b t
    | _ => exact absurd (show false = true from fx) Bool.false_ne_true
  | str a =>
    obtain ⟨t', rfl⟩ := ry
    cases x with
    | non => cases rx; exact SeqAt.EqAt.str_none a t'
    | bl b => cases rx; exact SeqAt.EqAt.str_bool a t' b
    | int b => obtain ⟨t, rfl⟩ := rx; exact SeqAt.EqAt.str_int a t' b t
    | str b => obtain ⟨t, rfl⟩ := rx; exact SeqAt.EqAt.str_str a t' b t
    | _ => exact absurd (show false = true from fx) Bool.false_ne_true
  | _ => exact absurd (show false = true from fy) Bool.false_ne_true
def inV (x : V) (xs : List V) : Bool := xs.any fun y => eqV y x
theorem call_len_seq : CallR X (.builtin "len") (fun xs H Q => ∃ p ys, xs = [.ref p] ∧ (SqL X.K H p ys ∨ SqT X.K H p ys) ∧ Q (.int ys.length) H) := by
  intro pins s σ H xs us Q I r h
  obtain ⟨p, ys, rfl, hq, q⟩ := h
  obtain ⟨u, rfl, rx⟩ := vals1 r
  cases rx
  have hn := line63
  rcases hq with hq | hq
  · obtain ⟨its, r', pl, hz⟩ := I.list hq
    have hlen := r'.length
    exact Calls.call_len_list pl.isList (by simp only [List.size_toArray] <;> omega) ⟨.int ys.length, H, I.tok _, ⟨s.toks + 1, by rw [List.size_toArray, hlen]⟩, q⟩
  · obtain ⟨its, r', pl, hz⟩ := I.tuple hq
    have hlen := r'.length
    exact len_tuple pl (by simp only [List.size_toArray] <;> omega) ⟨.int ys.length, H, I.tok _, ⟨s.toks + 1, by rw [List.size_toArray, hlen]⟩, q⟩
theorem call_list_of : CallR X (.type "list") (fun xs H Q => ∃ p ys, xs = [.ref p] ∧ (SqL X.K H p ys ∨ SqT X.K H p ys) ∧ ∀ l, H l = none → Q (.ref l) (upd H l (.lst ys))) := by
  intro pins s σ H xs us Q I r h
  obtain ⟨p, ys, rfl, hq, q⟩ := h
  obtain ⟨u, rfl, rx⟩ := vals1 r
  cases rx
  have fin : ∀ (its : List Value), Vals ys its → ys.length ≤ sizeLine → ∀ (h' : Heap) (c' : Nat), (∀ b o', s.heap.get? b = some o' → h'.get? b = some o') →
      h'.get? s.heap.objs.size = some { cls := .type "list", dict := none, data := .seq its.toArray c', slots := #[] } → EP X pins σ Q (.ref s.heap.objs.size) { s with heap := h' } := fun its r' hz h' c' kp e =>
    ⟨.ref s.heap.objs.size, _, I.laid (t' := s.toks) kp (Nat.le_refl _) (show ObjOk X.prog X.w _ h' _ (.lst ys) from ⟨hz, its, c', r', e⟩), rfl, q _ (I.hok.fresh (Nat.le_refl _))⟩
  rcases hq with hq | hq
  · obtain ⟨its, r', pl, hz⟩ := I.list hq
    have hlen := r'.length
    obtain ⟨o, ho, hc, n, hd⟩ := pl.isList
    exact call_list_seq p (.inl rfl) ho hc hd (fun h' c' kp e => fin its r' hz h' c' kp e) (by simp only [List.size_toArray] <;> omega)
  · obtain ⟨its, r', pl, hz⟩ := I.tuple hq
    have hlen := r'.length
    obtain ⟨o, ho, hc, n, hd⟩ := pl
    exact call_list_seq p (.inr rfl) ho hc hd (fun h' c' kp e => fin its r' hz h' c' kp e) (by simp only [List.size_toArray] <;> omega)
theorem call_tuple_of : CallR X (.type "tuple") (fun xs H Q => ∃ p ys, xs = [.ref p] ∧ ((SqL X.K H p ys ∧ ∀ l, H l = none → Q (.ref l) (upd H l (.tup ys))) ∨ (SqT X.K H p ys ∧ Q (.ref p) H))) := by
  intro pins s σ H xs us Q I r h
  obtain ⟨p, ys, rfl, h⟩ := h
  obtain ⟨u, rfl, rx⟩ := vals1 r
  cases rx
  rcases h with ⟨hq, q⟩ | ⟨hq, q⟩
  · obtain ⟨its, r', pl, hz⟩ := I.list hq
    have hlen := r'.length
    refine call_tuple_list pl.isList (fun h' kp => ?_) (by simp only [List.size_toArray] <;> omega)
    have I1 : Inv X pins σ H { s with heap := h' } := I.kept (t' := s.toks) kp
    have I2 : Inv X pins σ (upd H h'.objs.size (.tup ys)) { s with heap := h'.push { cls := .type "tuple", data := .seq its.toArray } } :=
      I1.laid (t' := s.toks) (fun b o e => Heap.get?_push_of_some _ e) (Nat.le_refl _) (show ObjOk X.prog X.w _ _ _ (.tup ys) from ⟨hz, its, r', IsTup.new _ _⟩)
    exact ⟨.ref h'.objs.size, _, I2, rfl, q _ (I1.hok.fresh (Nat.le_refl _))⟩
  · obtain ⟨its, r', pl, hz⟩ := I.tuple hq
    exact call_tuple_same pl ⟨.ref p, H, I, rfl, q⟩
def tyV (K : PySem.W.Frag) (T : String) (x : V) (H : Hp) : Prop := match x with
  | .str _ => T = "str"
  | .int _ => T = "int"
  | .ref p => (T = "list" ∧ ∃ xs, SqL K H p xs) ∨ (T = "tuple" ∧ ∃ o, K.lookup p = some o ∧ o.cls = .type "tuple" ∧ o.dict = none) ∨
      (T = "dict" ∧ ((∃ kvs, H p = some (.dK kvs)) ∨ ∃ kvs, H p = some (.dT kvs))) ∨ (T = "set" ∧ ∃ S n, H p = some (.set S n))
  | _ => False
theorem tyV_is {pins : List (Addr × Obj)} {σ : St} {H : Hp} {s : Shared} {T : String} {x : V} {v : Value} (I : Inv X pins σ H s) (r : RelV x v) (ty : tyV X.K T x H) :
    s.TypeIs v T ∧ ∀ a, v = .ref a → ∃ ob, s.heap.get? a = some ob ∧ ob.dict = none := by
  cases x with
  | str z =>
    obtain ⟨t, rfl⟩ := r
    cases (show T = "str" from ty)
    exact ⟨typeIs_str s z t, fun _ e => nomatch e⟩
  | int i =>
    obtain ⟨t, rfl⟩ := r
    cases (show T = "int" from ty)
    exact ⟨typeIs_int s i t, fun _ e => nomatch e⟩
  | ref p =>
    cases r
    rcases ty with ⟨rfl, xs, hq⟩ | ⟨rfl, o, hk, hc, hd⟩ | ⟨rfl, hk⟩ | ⟨rfl, S, n, hk⟩
    · obtain ⟨its, _, pl, _⟩ := I.list hq
      refine ⟨pl.isList.typeIs, fun a e => ?_⟩
      cases e
      obtain ⟨o, n, e, c, hd, _⟩ := pl
      exact ⟨o, e, hd⟩
    · refine ⟨⟨o, I.kIn p o hk, hc⟩, fun a e => ?_⟩
      cases e
      exact ⟨o, I.kIn _ o hk, hd⟩
    · have z : ∃ o, s.heap.get? p = some o ∧ o.ExactDict := by
        rcases hk with ⟨kvs, hk⟩ | ⟨kvs, hk⟩
        · obtain ⟨_, _, _, _, o, _, _, e, ex, _⟩ := I.hok p _ hk
          exact ⟨o, e, ex⟩
        · obtain ⟨_, _, _, _, o, _, _, e, ex, _⟩ := I.hok p _ hk
          exact ⟨o, e, ex⟩
      obtain ⟨o, e, ex⟩ := z
      refine ⟨⟨o, e, ex.1⟩, fun a e2 => ?_⟩
      cases e2
      exact ⟨o, e, ex.2.1⟩
    · obtain ⟨o, _, _, _, e, ex, _⟩ := I.hok p _ hk
      refine ⟨⟨o, e, ex.1⟩, fun a e2 => ?_⟩
      cases e2
      exact ⟨o, e, ex.2.1⟩
  | _ => exact False.elim ty
def tBM0 (K : PySem.W.Frag) (T : String) (r : V → List V → Hp → VK → Prop) (to : TE) : TE := fun σ H Q => to σ H fun x H1 => tyV K T x H1 ∧ r x [] H1 Q
def tBM (K : PySem.W.Frag) (T : String) (r : V → List V → Hp → VK → Prop) (to : TE) (t : TA) : TE := fun σ H Q => to σ H fun x H1 => tyV K T x H1 ∧ t σ H1 fun xs H2 => r x xs H2 Q
variable {o e : Expr} {es : List Expr} {to : TE} {t : TA} {name : Str} {apos cpos : Pos} {T id : String} {r : V → List V → Hp → VK → Prop}
theorem pe_bm (pa : PlainAttrs T) (slot : Slot T name id) (hty : typeOf (.builtin id) = pure (.type "method_descriptor")) (hm : MtR X id r) (ho : PE X o to) (ha : PA X (e :: es) t)
    (hbase : attributeBase o name X.env (eval o X.env) = eval o X.env := by rfl)
    (hfew : ((backTo cpos (starEach (e :: es) X.env)).all (fun x => !x.1) && (backToKw cpos (keywordEach [] X.env)).all (fun x => x.1.isSome)
      && decide ((e :: es).length + ([] : List Keyword).length + (if ([] : List Keyword).isEmpty then 0 else 1) < 30)) = true := by rfl)
    (hline : (apos.endLine == cpos.line) = true := by rfl) (hs : starEach (e :: es) X.env = (false, eval e X.env) :: starEach es X.env := by rfl) (hplain : (backTo cpos (starEach es X.env)).any (·.1) = false := by rfl) :
    PE X (.Call (.Attribute o name apos) (e :: es) [] cpos) (tBM X.K T r to t) := by
  intro pins s σ H Q I h
  refine wpAny_Call_method_late hbase hfew hline rfl (thn (ho pins s σ H _ I h) fun v s1 ⟨x, H1, I1, r1, ty, q1⟩ => ?_)
  obtain ⟨h1, h2⟩ := tyV_is I1 r1 ty
  refine ⟨T, id, pa, slot, hty, h1, h2, ?_⟩
  have hA := ha cpos pins s1 σ H1 _ I1 q1
  rw [hs] at hA ⊢
  refine Calls.callWith_builtin (by show (false || (backTo cpos (starEach es X.env)).any (·.1)) = false; rw [hplain] <;> rfl) (Calls.evalArgs_plain ?_)
  exact thn hA fun us s2 ⟨vs, H2, I2, r2, q2⟩ => hm pins s2 σ H2 x vs v us Q I2 r1 r2 q2
end
end L2
namespace L2
open PySem PySem.Spec PyProof.Rows
def MtM (X : Cx) (id : String) (r : V → List V → Hp → VK → Prop) : Prop :=
  ∀ (pins : List (Addr × Obj)) (s : Shared) (σ : St) (H : Hp) (x : V) (xs : List V) (v : Value) (us : List Value) (Q : VK), Inv X pins σ H s → RelV x v → Vals xs us → r x xs H Q →
    wpAny (model X.prog X.w) X.A (call (.builtin id) (v :: us)) (EP X pins σ Q) X.xe s
theorem Vals.one : ∀ {x : V} {us : List Value}, Vals [x] us → ∃ u, us = [u] ∧ RelV x u
  | _, _, .cons r .nil => ⟨_, rfl, r⟩
theorem Vals.zero : ∀ {us : List Value}, Vals [] us → us = []
  | _, .nil => rfl
theorem Vals.dropLast {xs : List V} {us : List Value} (h : Vals xs us) : Vals xs.dropLast us.dropLast := by
  induction h with
  | nil => exact .nil
  | cons r t ih =>
    cases t with
    | nil => exact .nil
    | cons q t' => exact .cons r ih
theorem Vals.eraseIdx : ∀ {xs : List V} {us : List Value} (i : Nat), Vals xs us → Vals (xs.eraseIdx i) (us.eraseIdx i)
  | _, _, _, .nil => .nil
  | _, _, 0, .cons _ t => t
  | _, _, i + 1, .cons r t => .cons r (Vals.eraseIdx i t)
theorem Vals.reverse {xs : List V} {us : List Value} (h : Vals xs us) : Vals xs.reverse us.reverse := by
  induction h with
  | nil => exact .nil
  | cons r t ih => rw [List.reverse_cons, List.reverse_cons]; exact Vals.append ih (.cons r .nil)
theorem Vals.rep {xs : List V} {us : List Value} (h : Vals xs us) : ∀ k : Nat, Vals (List.replicate k xs).flatten (List.replicate k us).flatten
  | 0 => .nil
  | k + 1 => by
    rw [List.replicate_succ, List.replicate_succ, List.flatten_cons, List.flatten_cons]
    exact Vals.append h (Vals.rep h k)
section
variable {X : Cx} {pins : List (Addr × Obj)} {σ : St} {H : Hp} {s : Shared} {l b : Addr} {xs ys zs : List V}
theorem Inv.lset {its its' : List Value} {n : Nat} {f : Array Value → Array Value} {t' : Nat} (I : Inv X pins σ H s) (hH : H l = some (.lst xs))
    (e : s.heap.get? l = some { cls := .type "list", data := .seq its.toArray n }) (hf : f its.toArray = its'.toArray) (hv : Vals ys its') (hz : ys.length ≤ sizeLine) :
    Inv X pins σ (upd H l (.lst ys)) { s with heap := s.heap.update l (Obj.mapSeq f), toks := t' } := by
  have q := PySem.IsL.update e f
  rw [hf] at q
  refine I.write (x := l) (e := l) (by rw [hH]; exact trivial) (.inl rfl) (fun b' u hb hu => (Heap.get?_update_other s.heap (Obj.mapSeq f) (Ne.symm hb)).trans hu) ⟨_, q⟩ ?_
  exact ⟨hz, its', _, hv, q⟩
theorem Inv.lnew {its : List Value} {t' : Nat} (I : Inv X pins σ H s) (hv : Vals ys its) (hz : ys.length ≤ sizeLine) :
    Inv X pins σ (upd H s.heap.objs.size (.lst ys)) { s with heap := s.heap.push { cls := .type "list", data := .seq its.toArray }, toks := t' } :=
  I.laid (fun _ _ q => Heap.get?_push_of_some _ q) (Nat.le_refl _) ⟨hz, its, 0, hv, Heap.get?_push_size _ rfl⟩
theorem Inv.fresh (I : Inv X pins σ H s) : H s.heap.objs.size = none := I.hok.fresh (Nat.le_refl _)
theorem Inv.lstM (I : Inv X pins σ H s) (hH : H l = some (.lst xs)) : xs.length ≤ sizeLine ∧ ∃ (its : List Value) (n : Nat), Vals xs its ∧ xs.length = its.length ∧ s.heap.get? l = some { cls := .type "list", data := .seq its.toArray n } := by
  obtain ⟨z, its, n, r, e⟩ := I.hok l _ hH
  exact ⟨z, its, n, r, r.length, e⟩
end
section
variable {X : Cx}
def rAppend : V → List V → Hp → VK → Prop := fun x vs H Q => ∃ l xs y, x = .ref l ∧ vs = [y] ∧ H l = some (.lst xs) ∧ xs.length < sizeLine ∧ Q .non (upd H l (.lst (xs ++ [y])))
theorem mt_append : MtM X "list.append" rAppend := by
  intro pins s σ H x vs v us Q I rx rv h
  obtain ⟨l, xs, y, rfl, rfl, hH, hz, q⟩ := h
  cases rx
  obtain ⟨u, rfl, ru⟩ := rv.one
  obtain ⟨z, its, n, r, hl, e⟩ := I.lstM hH
  refine call_meets F.slot_list_append ⟨_, e, rfl⟩ F.entry_list_append (F.args_list_append_2 _ _) (PySem.list_append l its.toArray n u (by rw [List.size_toArray]; omega)) ⟨e, ?_⟩
  refine ⟨.non, _, I.lset (its' := its ++ [u]) hH e (by simp) (r.append (.cons ru .nil)) ?_, rfl, q⟩
  rw [List.length_append, List.length_singleton]
  omega
def rExtend : V → List V → Hp → VK → Prop := fun x vs H Q => ∃ l b xs zs, x = .ref l ∧ vs = [.ref b] ∧ H l = some (.lst xs) ∧ H b = some (.lst zs) ∧ xs.length + zs.length ≤ sizeLine ∧ Q .non (upd H l (.lst (xs ++ zs)))
def rPopAt : V → List V → Hp → VK → Prop := fun x vs H Q => ∃ l xs i k y, x = .ref l ∧ vs = [.int i] ∧ H l = some (.lst xs) ∧ -(2 ^ 63) ≤ i ∧ i < 2 ^ 63 ∧ seqIndex? i xs.length = some k ∧ xs[k]? = some y ∧ Q y (upd H l (.lst (xs.eraseIdx k)))
def rCat : R2 := fun x y H Q => ∃ l b xs zs, x = .ref l ∧ y = .ref b ∧ H l = some (.lst xs) ∧ H b = some (.lst zs) ∧ xs.length + zs.length ≤ sizeLine ∧ ∀ p, H p = none → Q (.ref p) (upd H p (.lst (xs ++ zs)))
theorem op_cat : OpR X (binaryOp .Add) rCat := by
  intro pins s σ H x y v u Q I rx ry h
  obtain ⟨l, b, xs, zs, rfl, rfl, hH, hB, hz, q⟩ := h
  cases rx
  cases ry
  obtain ⟨z, its, n, r, hl, e⟩ := I.lstM hH
  obtain ⟨z2, its2, n2, r2, hl2, e2⟩ := I.lstM hB
  refine PySem.P.add_list e e2 ?_ (by rw [List.size_toArray, List.size_toArray]; omega)
  have ea : its.toArray ++ its2.toArray = (its ++ its2).toArray := by simp
  rw [ea]
  exact ⟨.ref _, _, I.lnew (t' := s.toks) (r.append r2) (by rw [List.length_append]; omega), rfl, q _ I.fresh⟩
def rRep : R2 := fun x y H Q => ∃ l k xs, x = .ref l ∧ y = .int k ∧ H l = some (.lst xs) ∧ -(2 ^ 63) ≤ k ∧ k < 2 ^ 63 ∧ xs.length * k.toNat ≤ sizeLine ∧
  ∀ p, H p = none → Q (.ref p) (upd H p (.lst (List.replicate k.toNat xs).flatten))
theorem len_rep {α : Type} (xs : List α) (k : Nat) : (List.replicate k xs).flatten.length = k * xs.length := by
  induction k with
  | zero => simp
  | succ k ih => rw [List.replicate_succ, List.flatten_cons, List.length_append, ih, Nat.succ_mul, Nat.add_comm]
end
section
variable {prog : Program} {w : World} {A : Around} {E : Value → Shared → Prop} {s : Shared}
end
section
variable {X : Cx}
end
end L2
namespace Att
open PySem PySem.W PySem.Calls PyProof.Rows
theorem ints_of_wellAll {P : Params} {h : Heap} : ∀ (ns : List Int) (vs : List Value), WellAll P h vs (ns.map WData.int) → IntsAre vs ns := by
  intro ns
  induction ns with
  | nil =>
    intro vs w
    rw [List.map_nil] at w
    cases w
    exact .nil
  | cons n ns ih =>
    intro vs w
    rw [List.map_cons] at w
    cases w with
    | cons a b =>
      cases a
      exact .cons _ _ (ih _ b)
theorem script_of {l : OpenLaw} {n : Nat} (hn : l.most = some n) {P : Params} {h : Heap} {args : List WData} {vals : List Value}
    (hpre : l.row.toRowW.claim.pre args = true) (hwl : WellAll P h vals args) :
    ∃ a vs ns, vals = [Value.ref a] ∧ args = [WData.list (ns.map WData.int)] ∧ h.get? a = some { cls := .type "list", data := .seq vs.toArray } ∧ IntsAre vs ns ∧ ns.length ≤ n := by
  have hsh : WShape.hasAll [] args [.list .int] = true := (pre_splitW hpre).1
  have hc : l.pre.holds [] { args := args } = true := (pre_splitW hpre).2
  obtain ⟨d, r, rfl, h1, h2⟩ := hasAllW_cons hsh
  obtain rfl := hasAllW_nil h2
  obtain ⟨xs, rfl, h3⟩ := hasW_list h1
  obtain ⟨ns, rfl⟩ := items_int h3
  have hlen : ns.length ≤ n := by
    unfold OpenLaw.pre at hc
    have h4 : (WTm.not (.lt (.lit (.int (n : Int))) (.len (.arg 0)))).holds [] { args := [.list (ns.map .int)] } = true := by
      have h4 := (holds_andW hc).1
      rw [hn] at h4
      exact h4
    have h5 := condW_of h4 (w_not (w_lt w_lit (w_len_list (w_arg rfl))))
    rw [List.length_map] at h5
    refine Nat.le_of_not_lt fun q => ?_
    have q' : (n : Int) < ((ns.length : Nat) : Int) := by omega
    first
      | (rw [decide_eq_true q'] at h5; exact absurd h5 (by decide))
      | (simp at h5; omega)
  cases hwl with
  | cons w1 w2 =>
    cases w2
    cases w1 with
    | list ho hall => exact ⟨_, _, ns, rfl, rfl, ho, ints_of_wellAll ns _ hall, hlen⟩
theorem post_true (l : OpenLaw) (args : List WData) : l.row.toRowW.claim.post args (.bool true) args = true :=
  postW_of (r := l.row.toRowW) (X := (true == true))
    (show WShape.has [] (.bool true) .bool = true by first | rfl | decide | simp [WShape.has, WShape.arms, WShape.armsAll])
    (show (WTm.eq .res (.lit (.bool true))).value [] { args := args, res := some (.bool true), after := args } = some (.bool (true == true)) from w_eq_bool (w_res rfl) w_lit) rfl
theorem attach_call {l : OpenLaw} {n : Nat} {q : Program} {loose : List Str} {XP : (Str → Option Value) → Heap → Prop} {YP : World → Heap → Prop} {d : DefRec}
    (hn : l.most = some n) (hdf : d.params.defaults = [])
    (call : ∀ (w : World) (s₀ s₁ : Shared) (mg mb : Str → Option Value) (fa : Addr) (o : Obj) (pm cd doc : Value) (a : Addr) (vs : List Value) (ns : List Int),
      Ground q loose [] XP w s₀ mg mb s₁.heap → YP w s₁.heap →
      s₁.heap.get? fa = some o → o.data = .func (docDef d.name d.params d.body d.scope pm cd doc) → s₁.heap.CodeRec cd d.name → mg d.name = some (.ref fa) →
      s₁.heap.get? a = some { cls := .type "list", data := .seq vs.toArray } → IntsAre vs ns → ns.length ≤ n → s₁.gens = #[] →
      codeAny (model l.prog w) callerA (.call (.ref fa) ⟨[.ref a], []⟩) (fun r s' => r = .ok (.ret (.bool true)) ∧ OldK s₁.heap s'.heap ∧ s'.os = s₁.os ∧ AllBare s'.gens) s₁) :
    WalkO q loose XP YP l.row.toRowW d [] (fun f vs => PySem.call f vs) := by
  intro w s₀ s₁ mg mb G Y fa o pm cd doc dV kV ho hd hcd hD hmg hg args vals as hpre hlay hrd hwl hlo
  obtain rfl : dV = .none := Dflts.none hD hdf
  obtain rfl : kV = .none := Dflts.noKw hD
  obtain ⟨a, vs, ns, rfl, rfl, hobj, hints, hlen⟩ := script_of hn hpre hwl
  refine enter_call (codeAny_mono (call w s₀ s₁ mg mb fa o pm cd doc a vs ns G Y ho (fd_plain hd) hcd hmg hobj hints hlen hg) fun r s' hq => ?_)
  obtain ⟨rfl, h2, h3, h4⟩ := hq
  exact ⟨.inl ⟨.bool true, .bool true, [], rfl, fun _ => rfl, .bool true, post_true l _, fun _ => ⟨List.Pairwise.nil, fun _ hm => (nomatch hm)⟩⟩, h2, h3, h4⟩
section
variable {prog : Program} {w : World} {A : Around} {E : Value → Shared → Prop} {s : Shared} {K : Frag}
end
end Att
namespace L2
open PySem PySem.Spec PyProof.Rows
theorem vals_ints : ∀ {vs : List Value} {ns : List Int}, IntsAre vs ns → Vals (ns.map V.int) vs
  | _, _, .nil => .nil
  | _, _, .cons n t h => .cons ⟨t, rfl⟩ (vals_ints h)
def Only (H : Hp) : Prop := ∀ b, H b = none ∨ ∃ o xs, H b = some (.frz o (.lst xs))
theorem law_call {P : Program} {w : World} {K : PySem.W.Frag} {mg mb : Str → Option Value} {CX : CXT} {k : Nat} {fa a : Addr} {fd : FuncData} {x : Str} {sp : Sp} {s₁ : Shared} {vs : List Value} {ns : List Int}
    (KX : K.In s₁.heap) (hns : s₁.heap.Ns mainGlobals mg) (hb : s₁.heap.Ns builtinsNs mb) (hbb : ∀ x : Str, x ≠ "__name__" → mb x = bootBuiltins x) (hlim : s₁.heap.NoLimit) (hg : s₁.gens = #[])
    (ha : s₁.heap.get? a = some { cls := .type "list", data := .seq vs.toArray }) (hi : IntsAre vs ns) (hl : ns.length ≤ sizeLine) (hr : Room k callerA)
    (F : ∀ base : Heap, K.In base → base.Ns mainGlobals mg → FnOk P w K mg base CX k fa fd [x] sp) (hbind : ∀ (s : Shared) (u : Value), BindsTo s fd ⟨[u], []⟩ [(x, u)])
    (hsp : ∀ H : Hp, Only H → SqL K H a (ns.map V.int) → sp [.ref a] H (fun v _ => v = .bl true) fun _ _ _ => False)
    (hCX : ∀ H e s', CX [] H s₁ (fun _ _ _ => False) e s' → False) :
    codeAny (model P w) callerA (.call (.ref fa) ⟨[.ref a], []⟩) (fun r s' => r = .ok (.ret (.bool true)) ∧ OldK s₁.heap s'.heap ∧ s'.os = s₁.os ∧ AllBare s'.gens) s₁ := by
  have rv := vals_ints hi
  have lenV := hi.length
  have core : ∀ H : Hp, Only H → SqL K H a (ns.map V.int) → HOk P w H s₁.heap → (∀ b, H b ≠ none → b = a) → (H a ≠ none → K.lookup a = none) →
      codeAny (model P w) callerA (.call (.ref fa) ⟨[.ref a], []⟩) (fun r s' => r = .ok (.ret (.bool true)) ∧ OldK s₁.heap s'.heap ∧ s'.os = s₁.os ∧ AllBare s'.gens) s₁ := by
    intro H hO hS hok hA hK
    have base_of : ∀ {b : Addr} {o : Obj}, s₁.heap.get? b = some o → H b = none → (hidT s₁.heap H).get? b = some o := fun e n => hidT_get e n
    have noA : ∀ {b : Addr} {o : Obj} {es : Array DictEntry} {ep : Nat}, s₁.heap.get? b = some o → o.data = .dict es ep → H b = none := fun {b o es ep} e d => by
      cases q : H b with
      | none => rfl
      | some u =>
        have e' : b = a := hA b (by rw [q]; simp)
        subst e'
        rw [ha] at e; cases e
        have d' : Data.seq vs.toArray _ = Data.dict es ep := d
        cases d'
    have nsK : ∀ {b : Addr} {m : Str → Option Value}, s₁.heap.Ns b m → (hidT s₁.heap H).Ns b m := fun {b m} ⟨o, es, ep, e, d, r⟩ => ⟨o, es, ep, base_of e (noA e d), d, r⟩
    have hKb : K.In (hidT s₁.heap H) := fun b o e => base_of (KX b o e) (by
      cases q : H b with
      | none => rfl
      | some u =>
        have e' : b = a := hA b (by rw [q]; simp)
        subst e'
        rw [hK (by rw [q]; simp)] at e; cases e)
    have hM : Mod K mg (hidT s₁.heap H) := ⟨hKb, nsK hns, ⟨mb, nsK hb, hbb⟩, let ⟨mc, h1, h2⟩ := hlim; ⟨mc, nsK h1, h2⟩⟩
    have e0 : Env0 P w K mg (hidT s₁.heap H) callerA [] s₁ H := ⟨rfl, hM, fun b o e => of_hidT e, Nat.le_of_eq (hidT_size _ _), trivial, fun b hb => absurd (show b ∈ ([] : List Addr) from hb) (by simp), hok, .of_eq hg⟩
    refine codeAny_mono ((F _ hKb (nsK hns)).run callerA [] s₁ H ⟨[.ref a], []⟩ [.ref a] [.ref a] _ _ hr e0 (hbind s₁ (.ref a)) (.cons rfl .nil) (hsp H hO hS)) fun r s' h => ?_
    cases r with
    | error e => exact (hCX H e s' h).elim
    | ok fl =>
      cases fl with
      | next => exact False.elim h
      | brk => exact False.elim h
      | cont => exact False.elim h
      | ret u =>
        obtain ⟨v, H', os, bare, un, hok', r', q⟩ := h
        have q' : v = .bl true := q
        subst q'
        obtain rfl : u = Value.bool true := r'
        refine ⟨rfl, OldK.of_keep fun b o e => ?_, os, bare⟩
        cases q : H b with
        | none => exact un.keep b o e q (by intro z; exact absurd (show b ∈ ([] : List Addr) from z) (by simp)) (by simp)
        | some u =>
          rcases hO b with z | ⟨ob, xs, z⟩
          · rw [q] at z; cases z
          · have z2 := un.frzs b ob _ z
            obtain ⟨e1, _⟩ := hok b _ z
            obtain ⟨e2, _⟩ := hok' b _ z2
            rw [e] at e1; cases e1
            exact e2
  cases hk : K.lookup a with
  | some o =>
    have e := KX a o hk
    rw [ha] at e
    cases e
    refine core (fun _ => none) (fun _ => .inl rfl) (.inr ⟨_, vs.toArray, _, hk, rfl, rfl, rfl, by rw [List.size_toArray, lenV]; exact hl, by simpa using rv⟩) (fun b u z => by have z' : (none : Option HO) = some u := z; cases z') (fun b z => absurd rfl z) fun z => absurd rfl z
  | none =>
    refine core (fun b => if b = a then some (.frz { cls := .type "list", data := .seq vs.toArray } (.lst (ns.map V.int))) else none) (fun b => ?_) (.inl (.inr ⟨{ cls := .type "list", data := .seq vs.toArray }, if_pos rfl⟩)) (fun b u z => ?_) (fun b z => ?_) fun _ => hk
    · by_cases hb : b = a
      · exact .inr ⟨_, _, if_pos hb⟩
      · exact .inl (if_neg hb)
    · by_cases hb : b = a
      · have z' := (if_pos hb).symm.trans z
        cases z'
        subst hb
        exact ⟨ha, by rw [List.length_map]; exact hl, vs, _, rv, ha⟩
      · have z' := (if_neg hb).symm.trans z
        cases z'
    · by_cases hb : b = a
      · exact hb
      · exact absurd (if_neg hb) z
end L2
namespace L2
open PySem PySem.Spec PyProof.Rows
theorem walk_of {l : PySem.W.OpenLaw} {n k : Nat} {q : Program} {loose : List Str} {XP : (Str → Option Value) → Heap → Prop} {YP : World → Heap → Prop} {d : DefRec} {K : Params → PySem.W.Frag} {CX : World → CXT} {sp : World → Sp} {x : Str}
    (hn : l.most = some n) (hn2 : n ≤ sizeLine) (hdf : d.params.defaults = []) (hr : Room k callerA)
    (hY : ∀ (w : World) (h : Heap), YP w h → (K w.params).In h)
    (F : ∀ (w : World) (mg : Str → Option Value) (fa : Addr) (h : Heap), (K w.params).In h → h.Ns mainGlobals mg → mg d.name = some (.ref fa) →
      ∃ fd : FuncData, (∀ (s : Shared) (u : Value), BindsTo s fd ⟨[u], []⟩ [(x, u)]) ∧
        ∀ base : Heap, (K w.params).In base → base.Ns mainGlobals mg → FnOk l.prog w (K w.params) mg base (CX w) k fa fd [x] (sp w))
    (hsp : ∀ (w : World) (H : Hp) (a : Addr) (ns : List Int), ns.length ≤ n → Only H → SqL (K w.params) H a (ns.map V.int) → sp w [.ref a] H (fun v _ => v = .bl true) fun _ _ _ => False)
    (hCX : ∀ (w : World) (H : Hp) (s : Shared) (e : Value) (s' : Shared), CX w [] H s (fun _ _ _ => False) e s' → False) :
    PySem.W.WalkO q loose XP YP l.row.toRowW d [] (fun f vs => PySem.call f vs) := by
  refine Att.attach_call hn hdf fun w s₀ s₁ mg mb fa o pm cd doc a vs ns G Y ho hd hcd hmg hobj hints hlen hg => ?_
  have KX := hY w _ Y
  obtain ⟨fd, hb, hF⟩ := F w mg fa _ KX G.T.g hmg
  exact law_call KX G.T.g G.T.b G.T.builtins G.T.nolimit hg hobj hints (Nat.le_trans hlen hn2) hr hF hb (fun H hO hS => hsp w H a ns hlen hO hS) fun H e s' => hCX w H s₁ e s'
end L2
namespace L2
open PySem PySem.Spec PyProof.Rows
def defArgs (s : Stmt) : Arguments := match s with
  | .FunctionDef _ a _ _ _ _ _ _ _ _ => a
  | _ => { posonlyargs := [], args := [], vararg := none, kwonlyargs := [], kw_defaults := [], kwarg := none, defaults := [] }
def defBody (s : Stmt) : List Stmt := match s with
  | .FunctionDef _ _ b _ _ _ _ _ _ _ => b
  | _ => []
def defScope (s : Stmt) : Scope := match s with
  | .FunctionDef _ _ _ _ _ _ sc _ _ _ => sc
  | _ => { kind := .function, names := [], isGenerator := false, isCoroutine := false }
abbrev CX0 : CXT := fun _ _ _ _ _ _ => False
abbrev E0 : XK := fun _ _ _ => False
theorem pass0 {X : Cx} : Passes CX0 X E0 := fun _ _ _ _ _ _ _ h => h.elim
structure Fun (K : PySem.W.Frag) (x qual : Str) (st : Stmt) (f : Addr) (fd : FuncData) : Prop where
  ex : ∃ (oc : Value) (od : Option Addr) (kV doc pm : Value) (an : Option Addr) (cdv ct : Value) (osl : Array (Option Value)),
    fd = PySem.W.fnOf x qual (defArgs st) (defBody st) (defScope st) .none kV doc pm an cdv ct ∧ K.lookup f = some ⟨oc, od, .func fd, osl⟩ ∧ PySem.W.codeIn K cdv qual = true
  kp : PySem.W.keepIn K (.ref f) = true
section
variable {P : Program} {w : World} {K : PySem.W.Frag} {mg : Str → Option Value} {base : Heap}
theorem Fun.ok {x qual : Str} {st : Stmt} {f : Addr} {fd : FuncData} {N ps : List Str} {k : Nat} {sp : Sp} (F : Fun K x qual st f fd) (S : FnScope N ps (defScope st)) (len : ∀ vs H Q E, sp vs H Q E → vs.length = ps.length)
    (hbody : ∀ (cdv : Value) (A : Around) (outer : List Env) (s : Shared) (H : Hp) (vs : List V) (Q : VK) (E : XK), Room k (A.deeper (envOfC qual (defScope st) s.heap.objs.size f cdv)) → sp vs H Q E →
      ∃ t, PSs (cxOf CX0 P w K mg base N qual (defScope st) f cdv A outer s H E).nox (defBody st) t ∧ t { nx := fun _ H' => Q .non H', rt := Q } (start N vs) H) : FnOk P w K mg base CX0 (k + 1) f fd ps sp := by
  obtain ⟨oc, od, kV, doc, pm, an, cdv, ct, osl, rfl, lk, hcd⟩ := F.ex
  refine fn_of lk hcd S len fun A outer s H vs Q E hr hsp => ?_
  obtain ⟨t, h, q⟩ := hbody cdv A outer s H vs Q E hr hsp
  exact ⟨t, h.nox, q⟩
theorem Fun.binds {x qual : Str} {st : Stmt} {f : Addr} {fd : FuncData} {ps : List Str} (F : Fun K x qual st f fd)
    (h : ∀ (kV doc pm : Value) (an : Option Addr) (cdv ct : Value) (us : List Value), us.length = ps.length → bindArgs (PySem.W.fnOf x qual (defArgs st) (defBody st) (defScope st) .none kV doc pm an cdv ct) ⟨us, []⟩ = pure (ps.zip us)) : Binds K fd ps [] := by
  obtain ⟨oc, od, kV, doc, pm, an, cdv, ct, osl, rfl, lk, hcd⟩ := F.ex
  exact .all (h kV doc pm an cdv ct)
theorem fun_mk {x qual : Str} {st : Stmt} {f : Addr} {oc : Value} {od an : Option Addr} {osl : Array (Option Value)} {kV doc pm cdv ct : Value} (l : K.lookup f = some ⟨oc, od, .func (PySem.W.fnOf x qual (defArgs st) (defBody st) (defScope st) .none kV doc pm an cdv ct), osl⟩)
    (c : PySem.W.codeIn K cdv qual = true) (k : PySem.W.keepIn K (.ref f) = true) : Fun K x qual st f (PySem.W.fnOf x qual (defArgs st) (defBody st) (defScope st) .none kV doc pm an cdv ct) := ⟨⟨oc, od, kV, doc, pm, an, cdv, ct, osl, rfl, l, c⟩, k⟩
end
theorem small1000 {n : Nat} (h : n ≤ 1000) : n < sizeLine := Nat.lt_of_le_of_lt h (by decide)
section
variable {X : Cx}
theorem pv (i : Nat) {x : Str} {pos : Pos} (hN : X.N[i]? = some x := by rfl) (hv : Vis X.env.scope x := by first | exact Or.inl rfl | exact Or.inr (Or.inl rfl) | exact Or.inr (Or.inr rfl)) (hd : (x == ("__debug__" : Str)) = false := by decide)
    (hcd : (x == ("__classdict__" : Str)) = false := by decide) : PE X (.Name x pos) (tVar i) := pe_var hN hv hd hcd
end
def Same (H H' : Hp) : Prop := ∀ b o, H b = some o → H' b = some o
theorem Same.refl (H : Hp) : Same H H := fun _ _ h => h
theorem Same.trans {H H1 H2 : Hp} (a : Same H H1) (b : Same H1 H2) : Same H H2 := fun c o h => b c o (a c o h)
theorem Same.free {H H' : Hp} (e : Same H H') {l : Addr} (h : H' l = Option.none) : H l = Option.none := by
  cases q : H l with
  | none => rfl
  | some o =>
    rw [e l o q] at h
    cases h
theorem Same.seq {K : PySem.W.Frag} {H H' : Hp} {a : Addr} {xs : List V} (e : Same H H') (h : SqL K H a xs) : SqL K H' a xs := by
  rcases h with (h | ⟨o, h⟩) | h
  · exact .inl (.inl (e _ _ h))
  · exact .inl (.inr ⟨o, e _ _ h⟩)
  · exact .inr h
end L2
set_option maxHeartbeats 4000000
namespace L2
open PySem PySem.Spec PyProof.Rows
section
variable {prog : Program} {w : World} {A : Around} {R : Result → Shared → Prop} {s : Shared}
theorem compLoop_any {elt target iter : Expr} {scope : Scope} {pos : Pos} {it acc : Value} {env : Env} (I : Nat → Shared → Prop)
    (turn : ∀ n s, I n s → wpAny (model prog w) A (pyNext it) (fun r s₁ => match r with
      | none => R (.ok .next) s₁
      | some v => wpAny (model prog w) A (letOwnedTupleGo target it v) (fun _ s₀ => wpAny (model prog w) A (assign target env v) (fun _ s₂ => wpAny (model prog w) A (eval elt env) (fun x s₃ =>
          wpAny (model prog w) A (call (.builtin "list.append") [acc, x]) (fun _ s₄ => ∃ m, m < n ∧ I m s₄) (fun _ _ => False) s₃)
          (fun _ _ => False) s₂) (fun _ _ => False) s₀) (fun _ _ => False) s₁) (fun _ _ => False) s)
    (n : Nat) (h : I n s) :
    codeAny (model prog w) A (.compLoop (.ListComp elt [⟨target, iter, [], 0⟩] scope pos) 0 it acc env) R s := by
  refine codeAny_loop rfl I (fun n s hI => ?_) n h
  show wpAny _ _ ((compTurn (.ListComp elt [⟨target, iter, [], 0⟩] scope pos) 0 it acc env).onRaise (fun x => do noteFrame x env; theTreesLotGoes x)) _ _ s
  refine wpAny_noted ?_
  rw [compTurn_list1]
  refine wpAny_bind (wpAny_standAt (wpAny_bind (wpAny_mono (turn n s hI) (fun r s₁ h₁ => ?_) fun _ _ h' => h'.elim)))
  cases r with
  | none => exact wpAny_pure h₁
  | some v =>
    refine wpAny_bind (wpAny_mono h₁ (fun _ s₀ h₀ => ?_) fun _ _ h' => h'.elim)
    exact wpAny_bind (wpAny_mono h₀ (fun _ s₂ h₂ => wpAny_bind (wpAny_bind (wpAny_mono h₂ (fun x s₃ h₃ => wpAny_bind (wpAny_mono h₃
      (fun _ s₄ h₄ => wpAny_pure (wpAny_pure ⟨rfl, h₄⟩)) fun _ _ h' => h'.elim)) fun _ _ h' => h'.elim))) fun _ _ h' => h'.elim)
end
def cxComp (X : Cx) (N : List Str) (scope : Scope) (cl : List (Str × Addr)) (C : Addr) (ex : List Addr) (s : Shared) (H : Hp) : Cx where
  prog := X.prog
  w := X.w
  K := X.K
  mg := X.mg
  base := X.base
  A := X.A
  N := N
  s₀ := s
  H₀ := H
  env := compEnvC scope cl C X.env
  outer := X.stack
  stack := X.stack
  ex := ex
  fn := fun _ => false
  calm := X.calm
  pn := X.pn
  xe := fun _ _ => False
def compSt (k : Nat) (js : List Nat) (σ : St) : St := List.replicate k none ++ js.map fun j => (σ[j]?).join
def tComp (wi : TI) (k : Nat) (js : List Nat) (g : TG) (te : TE) : TE := fun σ H Q => wi σ H fun J H1 =>
  ∃ W : Nat → Nat → List V → St → Hp → Prop, (∃ m, W 0 m [] (compSt k js σ) H1) ∧ ∀ i m ys σ' H', W i m ys σ' H' →
    (J.stop i H' ∧ ∀ p, H' p = none → Q (.ref p) (upd H' p (.lst ys))) ∨
    (J.go i H' ∧ ys.length < sizeLine ∧ ∃ N : List V → St → Hp → Prop, (∀ zs σ2 H2, N zs σ2 H2 → ∃ m', m' < m ∧ W (i + 1) m' zs σ2 H2) ∧
      ∀ x H2, J.yld i H' x H2 → g x σ' H2 fun σ3 H3 => te σ3 H3 fun v H4 => N (ys ++ [v]) σ3 H4)
structure Cap (X : Cx) (scope : Scope) (cl : List (Str × Addr)) (x : Str) (j : Nat) : Prop where
  at_ : X.N[j]? = some x
  out : X.env.scope.names.lookup x = some .cell ∨ X.env.scope.names.lookup x = some .free
  inn : (relabel scope X.env).names.lookup x = some .cell ∨ (relabel scope X.env).names.lookup x = some .free
theorem join_some {σ : St} {j : Nat} {v : V} (h : (σ[j]?).join = some v) : σ[j]? = some (some v) := by
  cases e : σ[j]? with
  | none => rw [e] at h; cases h
  | some o =>
    rw [e] at h
    cases o with
    | none => cases h
    | some u => cases h; rfl
theorem comp_core {X : Cx} {elt tg iter : Expr} {scope : Scope} {cl : List (Str × Addr)} {pos : Pos} {own fv : List Str} {js : List Nat} {wi : TI} {g : TG} {te : TE}
    (hc : X.calm = true) (hi : PI X tg iter wi) (hclos : closureFor scope X.env = pure cl) (hcell : ∀ y ∈ scope.names, y.2 ≠ .cell) (hkind : scope.kind = .function)
    (hnames : ∀ y ∈ scope.names, y.2 = .local → scope.names.lookup y.1 = some .local)
    (hcl : ∀ x c, cl.lookup x = some c → X.env.cells.lookup x = some c)
    (hhas : ∀ x, ((relabel scope X.env).names.lookup x = some .cell ∨ (relabel scope X.env).names.lookup x = some .free) → ∃ c, cl.lookup x = some c)
    (hlen : js.length = fv.length) (hcap : ∀ (i : Nat) x j, fv[i]? = some x → js[i]? = some j → Cap X scope cl x j)
    (hg : ∀ (C : Addr) (ex : List Addr) (s : Shared) (H : Hp), PG (cxComp X (own ++ fv) scope cl C ex s H) tg g)
    (he : ∀ (C : Addr) (ex : List Addr) (s : Shared) (H : Hp), PE (cxComp X (own ++ fv) scope cl C ex s H) elt te)
    (hs : ∀ x, foldedSetIterable iter X.env x = pure x)
    {pins : List (Addr × Obj)} {s : Shared} {σ : St} {H : Hp} {Q : VK} {use : Option (Value → Sem Unit)} {QQ : Value → Shared → Prop} {fpos : Pos} (I : Inv X pins σ H s) (h : tComp wi own.length js g te σ H Q)
    (fin : ∀ (a C : Addr) (s5 : Shared) (H5 : Hp) (fl : Flow), Inv X pins σ H5 s5 → H5 C = none → C ≠ X.env.locals → X.s₀.heap.objs.size ≤ C → (∀ x c, X.env.cells.lookup x = some c → c ≠ C) → (∀ p ∈ X.pn ++ pins, p.1 ≠ C) → (∃ m, s5.heap.Ns C m) → Q (.ref a) H5 → compPost (model X.prog X.w) X.A X.xe use QQ (.ref a) C (.ok fl) s5) :
    wpAny (model X.prog X.w) X.A (comprehension (.ListComp elt [⟨tg, iter, [], 0⟩] scope pos) scope X.env fpos (newList []) false (firstIter [⟨tg, iter, [], 0⟩] X.env) use) QQ X.xe s := by
  refine wpAny_comprehension_free (use := use) rfl hs hclos hkind hnames (thn (hi pins s σ H _ I h) fun v s1 h1 => thn h1 fun itv s2 h2 => ?_)
  obtain ⟨it, fp, tn, J, H2, e, I2, T, st2, f2, W, ⟨m0, w0⟩, turn⟩ := h2
  subst e
  refine wpAny_newObj_type (wpAny_newFunctionEnv hcell (by intro y hy; simp at hy) (fun h₁ hns₁ hsb₁ => ?_) hkind)
  dsimp only at hns₁ hsb₁ ⊢
  generalize hHp : s2.heap.push { cls := .type "list", dict := none, data := .seq ([] : List Value).toArray } = hL at hns₁ hsb₁ ⊢
  have hC : hL.objs.size = s2.heap.objs.size + 1 := by rw [← hHp, Heap.size_push]
  have hDC : s2.heap.objs.size ≠ hL.objs.size := by rw [hC]; exact Nat.ne_of_lt (Nat.lt_succ_self _)
  have ltC : ∀ b, b < s2.heap.objs.size → b ≠ hL.objs.size := fun b hb => by rw [hC]; exact Nat.ne_of_lt (Nat.lt_succ_of_lt hb)
  have old : ∀ b o, s2.heap.get? b = some o → h₁.get? b = some o := fun b o e => hsb₁.extBut b o (ltC b (Heap.lt_size e)) (Heap.get?_push_of_some _ (hHp ▸ Heap.get?_push_of_some _ e))
  have hacc : h₁.get? s2.heap.objs.size = some { cls := .type "list", data := .seq ([] : List Value).toArray 0 } := hsb₁.extBut _ _ hDC (Heap.get?_push_of_some _ (hHp ▸ Heap.get?_push_size _ rfl))
  have hfresh : ∀ a, s2.heap.objs.size ≤ a → H2 a = none := fun a ha => I2.hok.fresh ha
  have fpL : ∀ b ∈ fp, b < s2.heap.objs.size := fun b hb => by
    obtain ⟨o, e, _⟩ := T.obj _ _ st2 b hb
    exact Heap.lt_size e
  have cellL : ∀ x c, cl.lookup x = some c → c < s2.heap.objs.size := fun x c e => by
    obtain ⟨v, q⟩ := I2.cell x c (hcl x c e)
    exact q.lt
  have pinL : ∀ p ∈ X.pn ++ pins, p.1 < s2.heap.objs.size := fun p hp => Heap.lt_size (I2.pin p hp).1
  generalize hX : cxComp X (own ++ fv) scope cl hL.objs.size fp s2 H2 = Y
  have ok : Y.Ok := by
    subst hX
    refine ⟨I2.ok.mod, hkind, I2.ok.glob, I2.ok.blt, by show s2.heap.objs.size ≤ hL.objs.size; omega, fun x y c h1 h2 => I2.ok.inj x y c (hcl x c h1) (hcl y c h2), fun x hx => hhas x hx,
      fun x c hf => absurd hf (by show ¬ (false = true); decide), I2.ok.hd, I2.ok.frames, .inl rfl, fun b hb => ⟨ltC b (fpL b hb), fun x c e => (f2 b hb).2.2.2.2.1 x c (hcl x c e)⟩, I2.bs, Nat.le_trans I2.ok.bsz I2.sz, fun b o e hb => ?_, fun b hb hz => ?_, I2.stack, I2.stkFree⟩
    · rcases (f2 b hb).2.2.2.1 with z | z
      · exact I2.ok.noex b o e z
      · exact absurd (Nat.lt_of_lt_of_le (Heap.lt_size e) (Nat.le_trans I2.ok.bsz z)) (Nat.lt_irrefl _)
    · rcases List.mem_cons.mp (I2.stkSub b hz) with z | z
      · exact (f2 b hb).2.1 z
      · exact (f2 b hb).2.2.1 z
  have hYl : Y.env.locals = hL.objs.size := by subst hX; rfl
  have hYs : Y.s₀ = s2 := by subst hX; rfl
  have hYH : Y.H₀ = H2 := by subst hX; rfl
  have hYx : Y.ex = fp := by subst hX; rfl
  have hYf : Y.fs = frs X.stack := by subst hX; rfl
  have hYc : Y.env.cells = cl := by subst hX; rfl
  have hYp : Y.pn = X.pn := by subst hX; rfl
  have pinOk : ∀ p ∈ X.pn ++ pins, s2.heap.get? p.1 = some p.2 ∧ H2 p.1 = none ∧ p.1 ≠ hL.objs.size ∧ p.1 ∉ frs X.stack ∧ ∀ v, p.2.data ≠ .cell v := fun p hp => by
    obtain ⟨e, n, ne, nf, d⟩ := I2.pin p hp
    refine ⟨e, n, ltC _ (Heap.lt_size e), fun z => ?_, d⟩
    rcases List.mem_cons.mp (I2.stkSub _ z) with q | q
    · exact ne q
    · exact nf q
  have stkL : ∀ b ∈ frs X.stack, b < s2.heap.objs.size := fun b hb => by
    obtain ⟨_, o, ho, _⟩ := I2.stack.mem hb
    exact Heap.lt_size ho
  have I3 : Inv Y (pins ++ [(s2.heap.objs.size, { cls := .type "list", data := .seq ([] : List Value).toArray 0 })]) (compSt own.length js σ) H2 { s2 with heap := h₁, toks := s2.toks + ([] : List (Str × Value)).length } := by
    refine ⟨ok, by subst hX; rfl, I2.bare, by rw [hYH, hYs]; exact Un.kept old, ⟨_, by rw [hYl]; exact hns₁, fun i x v e1 e2 e3 => ?_⟩, fun x c e => ?_, by rw [hYl]; exact hfresh _ (by omega), fun x c e => ?_, fun p hp => ?_, by subst hX; exact I2.hok.kept old, ?_⟩
    · subst hX
      have e1 : (own ++ fv)[i]? = some x := e1
      unfold compSt at e2
      by_cases hi : i < own.length
      · rw [List.getElem?_append_left (by simpa using hi), List.getElem?_replicate] at e2
        split at e2 <;> cases e2
      · rw [List.getElem?_append_right (by simpa using hi), List.length_replicate, List.getElem?_map] at e2
        rw [List.getElem?_append_right (by omega)] at e1
        cases ej : js[i - own.length]? with
        | none => rw [ej] at e2; cases e2
        | some j =>
          rw [ej] at e2
          have cp := hcap _ x j e1 ej
          have e2' : σ[j]? = some (some v) := join_some (Option.some.inj e2)
          obtain ⟨m, hn, hl⟩ := I2.loc
          obtain ⟨u, r, l⟩ := hl j x v cp.at_ e2' (cp.out.elim (fun z => .inr (.inl z)) fun z => .inr (.inr z))
          refine ⟨u, r, .inr ⟨cp.inn, ?_⟩⟩
          obtain ⟨c, ec⟩ := hhas x cp.inn
          rcases l with ⟨k, _⟩ | ⟨_, c', ec', z⟩
          · have k : X.env.scope.names.lookup x = some .local := k
            rcases cp.out with q | q <;> rw [q] at k <;> cases k
          · rw [hcl x c ec] at ec'
            cases ec'
            obtain ⟨o, ho, hd⟩ := z
            exact ⟨c, ec, o, old _ _ ho, hd⟩
    · rw [hYc] at e
      obtain ⟨v, o, ho, hd⟩ := I2.cell x c (hcl x c e)
      exact ⟨v, o, old _ _ ho, hd⟩
    · rw [hYc] at e
      exact I2.freeC x c (hcl x c e)
    · rw [hYp] at hp
      rw [hYl, hYf]
      rcases List.mem_append.mp hp with z | z
      · obtain ⟨a, b, c, d, f⟩ := pinOk p (List.mem_append_left _ z)
        exact ⟨old _ _ a, b, c, d, f⟩
      · rcases List.mem_append.mp z with z | z
        · obtain ⟨a, b, c, d, f⟩ := pinOk p (List.mem_append_right _ z)
          exact ⟨old _ _ a, b, c, d, f⟩
        · have e : p = _ := List.mem_singleton.mp z
          subst e
          exact ⟨hacc, hfresh _ (Nat.le_refl _), hDC, fun z => absurd (stkL _ z) (Nat.lt_irrefl _), fun v z => by cases z⟩
    · subst hX
      unfold compSt
      show _ = (own ++ fv).length
      simp [hlen]
  have hYprog : Y.prog = X.prog := by subst hX; rfl
  have hYw : Y.w = X.w := by subst hX; rfl
  have hYK : Y.K = X.K := by subst hX; rfl
  have hYA : Y.A = X.A := by subst hX; rfl
  have hYcalm : Y.calm = true := by subst hX; exact hc
  have hYxe : Y.xe = fun _ _ => False := by subst hX; rfl
  have hYenv : Y.env = compEnvC scope cl hL.objs.size X.env := by subst hX; rfl
  have hg' := hg hL.objs.size fp s2 H2
  have he' := he hL.objs.size fp s2 H2
  rw [hX] at hg' he'
  have fpOk : ∀ {H' : Hp} {pn : List (Addr × Obj)}, (∀ b ∈ fp, H' b = none) → (∀ p ∈ pn, p.1 = s2.heap.objs.size ∨ p ∈ pins) → ∀ b ∈ fp, FpOk Y pn H' b := fun hn hp b hb => by
    refine ⟨hn b hb, by rw [hYl]; exact ltC b (fpL b hb), ?_, .inl (by rw [hYx]; exact hb), fun x c e => ?_, fun p hq => ?_⟩
    · rw [hYf]
      intro hz
      rcases List.mem_cons.mp (I2.stkSub b hz) with z | z
      · exact (f2 b hb).2.1 z
      · exact (f2 b hb).2.2.1 z
    · rw [hYc] at e
      exact (f2 b hb).2.2.2.2.1 x c (hcl x c e)
    · rw [hYp] at hq
      rcases List.mem_append.mp hq with z | z
      · exact (f2 b hb).2.2.2.2.2 p (List.mem_append_left _ z)
      · rcases hp p z with q | q
        · rw [q]; exact Ne.symm (Nat.ne_of_lt (fpL b hb))
        · exact (f2 b hb).2.2.2.2.2 p (List.mem_append_right _ q)
  have loop : ∀ s₃ : Shared, s₃ = { s2 with heap := h₁, toks := s2.toks + ([] : List (Str × Value)).length } →
      codeAny (model X.prog X.w) X.A (.compLoop (.ListComp elt [⟨tg, iter, [], 0⟩] scope pos) 0 (.ref it) (.ref s2.heap.objs.size) (compEnvC scope cl hL.objs.size X.env))
        (compPost (model X.prog X.w) X.A X.xe use QQ (.ref s2.heap.objs.size) hL.objs.size) s₃ := by
    rintro s₃ rfl
    refine compLoop_any (fun n s' => ∃ i ys its k σ' H', Inv Y (pins ++ [(s2.heap.objs.size, { cls := .type "list", data := .seq (its : List Value).toArray k })]) σ' H' s' ∧ tn i s'.heap ∧ (∀ b ∈ fp, H' b = none) ∧ Vals ys its ∧ ys.length ≤ sizeLine ∧ W i n ys σ' H') ?_ m0
      ⟨0, [], [], 0, _, H2, I3, T.keep _ _ _ st2 fun b _ o e => old b o e, fun b hb => (f2 b hb).1, .nil, Nat.zero_le _, w0⟩
    rintro n s4 ⟨i, ys, its, k, σ4, H4, I4, st4, fr4, rv, hz, w4⟩
    have pinD : ∀ p ∈ (pins ++ [(s2.heap.objs.size, ({ cls := .type "list", data := .seq (its : List Value).toArray k } : Obj))]), p.1 = s2.heap.objs.size ∨ p ∈ pins := fun p hp => by
      rcases List.mem_append.mp hp with z | z
      · exact .inr z
      · rw [List.mem_singleton.mp z]; exact .inl rfl
    have F4 := fpOk (pn := pins ++ [(s2.heap.objs.size, { cls := .type "list", data := .seq (its : List Value).toArray k })]) fr4 pinD
    rcases turn i n ys σ4 H4 w4 with ⟨stop, qn⟩ | ⟨go, hlt, N, hN, step⟩
    · have d := T.done Y hYprog hYw hYK hYcalm i _ s4 σ4 H4 (fun _ _ => False) I4 F4 st4 stop
      rw [hYA] at d
      refine thn d fun r s5 ⟨hr, I5⟩ => ?_
      subst hr
      obtain ⟨m, hn, _⟩ := id I5.loc
      rw [hYl] at hn
      have hD := I5.pin (s2.heap.objs.size, { cls := .type "list", data := .seq (its : List Value).toArray k }) (List.mem_append_right _ (List.mem_append_right _ (List.mem_singleton.mpr rfl)))
      have hDn : H4 s2.heap.objs.size = none := hD.2.1
      have kp : ∀ b o, b ≠ hL.objs.size → s5.heap.get? b = some o → s5.heap.get? b = some o := fun b o _ e => e
      have B := I5.base
      rw [hYH, hYs, hYx, hYf] at B
      have s2C : ∀ b o, s2.heap.get? b = some o → b ≠ hL.objs.size := fun b o e => ltC b (Heap.lt_size e)
      have trk : ∀ b u, H4 b = some u → b ≠ s2.heap.objs.size := fun b u e z => by rw [z, hDn] at e; cases e
      have trC : ∀ b u, H4 b = some u → b ≠ hL.objs.size := fun b u e z => by
        have := I5.free
        rw [hYl, ← z, e] at this; cases this
      have hH2 : ∀ b u, H2 b = some u → b ≠ s2.heap.objs.size := fun b u e z => by rw [z, hfresh _ (Nat.le_refl _)] at e; cases e
      have IX : Inv X pins σ (upd H4 s2.heap.objs.size (.lst ys)) s5 := by
       refine I2.call' (ch := fp) (by show s5.os = s2.os; rw [I5.os, hYs]) ⟨fun b o e n hb hx => kp b o (s2C b o e) (B.keep b o e n hb hx), fun b o e n hb hx => ?_, fun b o e n hx => ?_, fun b o e hx => ?_, fun b xs e => ?_, fun b o u e => ?_, fun b ps e => ?_⟩ ?_ I5.bare (fun b hb => ⟨(f2 b hb).2.2.2.1, (f2 b hb).2.1, (f2 b hb).2.2.2.2.1, (f2 b hb).2.2.2.2.2⟩)
       · obtain ⟨sl, q⟩ := B.slot b o e n hb hx
         exact ⟨sl, kp b _ (s2C b o e) q⟩
       · rw [upd_ne (Nat.ne_of_lt (Heap.lt_size e))]
         exact B.free b o e n hx
       · obtain ⟨o', q⟩ := B.there b o e hx
         exact ⟨o', kp b o' (s2C b o e) q⟩
       · rw [upd_ne (hH2 b _ e)]
         exact B.tups b xs e
       · rw [upd_ne (hH2 b _ e)]
         exact B.frzs b o u e
       · obtain ⟨more, q⟩ := B.tbls b ps e
         exact ⟨more, by rw [upd_ne (hH2 b _ e)]; exact q⟩
       · intro b u e
         by_cases hb : b = s2.heap.objs.size
         · subst hb
           rw [upd_same] at e
           cases e
           exact ⟨hz, its, k, rv, kp _ _ hDC hD.1⟩
         · rw [upd_ne hb] at e
           have okb := I5.hok b u e
           rw [hYprog, hYw] at okb
           refine okb.stay (fun c v hc q => kp c v ?_ q) (fun c q => by rw [upd_ne (trk c _ q)]; exact q) fun c xs q => by rw [upd_ne (trk c _ q)]; exact q
           rcases hc with z | z
           · rw [z]; exact trC b u e
           · exact trC c _ z
      have zC : upd H4 s2.heap.objs.size (.lst ys) hL.objs.size = none := by
        rw [upd_ne (Ne.symm hDC)]
        have := I5.free
        rwa [hYl] at this
      exact fin s2.heap.objs.size hL.objs.size s5 _ _ IX zC (Ne.symm (ltC _ I2.lt)) (by have := I2.sz; omega) (fun x c e => ltC c (by obtain ⟨v, q⟩ := I2.cell x c e; exact q.lt)) (fun p hp => ltC _ (pinL p hp)) ⟨m, hn⟩ (qn _ hDn)
    · have d := T.item Y hYprog hYw hYK hYcalm i _ s4 σ4 H4 (fun _ _ => False) I4 F4 st4 go
      rw [hYA] at d
      refine thn d fun r s5 ⟨u, hr, h5⟩ => ?_
      subst hr
      refine thn h5 fun _ s6 ⟨x, H6, I6, r6, y6, st6, fr6⟩ => ?_
      have I6' := I6.pinned (fpOk (pn := pins ++ [(s2.heap.objs.size, { cls := .type "list", data := .seq (its : List Value).toArray k })]) fr6 pinD) (T.obj _ _ st6)
      have d7 := hg' _ s6 σ4 H6 x u _ I6' r6 (step x H6 y6)
      rw [hYprog, hYw, hYA, hYxe, hYenv] at d7
      refine thn d7 fun _ s7 ⟨σ7, H7, I7, q7⟩ => ?_
      have d8 := he' _ s7 σ7 H7 _ I7 q7
      rw [hYprog, hYw, hYA, hYxe, hYenv] at d8
      refine thn d8 fun u8 s8 ⟨v8, H8, I8, r8, n8⟩ => ?_
      obtain ⟨m', hm, w8⟩ := hN _ _ _ n8
      have pD := I8.pin (s2.heap.objs.size, { cls := .type "list", data := .seq (its : List Value).toArray k }) (List.mem_append_right _ (List.mem_append_left _ (List.mem_append_right _ (List.mem_singleton.mpr rfl))))
      have tn8 : tn (i + 1) s8.heap := T.keep _ _ _ st6 fun b hb o e => (I8.pin (b, o) (List.mem_append_right _ (List.mem_append_right _ (mem_pinsAt hb e)))).1
      have fr8 : ∀ b ∈ fp, H8 b = none := fun b hb => by
        obtain ⟨o, e, d⟩ := T.obj _ _ st6 b hb
        exact (I8.pin (b, o) (List.mem_append_right _ (List.mem_append_right _ (mem_pinsAt hb e)))).2.1
      have J8 : Inv Y pins σ7 H8 s8 := I8.unpinned.unpinned
      have eD : s8.heap.get? s2.heap.objs.size = some { cls := .type "list", data := .seq its.toArray k } := pD.1
      refine call_meets F.slot_list_append ⟨_, eD, rfl⟩ F.entry_list_append (F.args_list_append_2 _ _) (PySem.list_append _ its.toArray k u8 (by rw [List.size_toArray, ← rv.length]; omega)) ⟨eD, ?_⟩
      have other : ∀ b o, b ≠ s2.heap.objs.size → s8.heap.get? b = some o → (s8.heap.update s2.heap.objs.size (Obj.mapSeq fun xs => xs.push u8)).get? b = some o := fun b o nb e => (Heap.get?_update_other s8.heap _ (Ne.symm nb)).trans e
      have J9 := J8.turned (t' := s8.toks) (it := s2.heap.objs.size) (h' := s8.heap.update s2.heap.objs.size (Obj.mapSeq fun xs => xs.push u8)) other pD.2.1 (by rw [hYl]; exact hDC) (.inr (by rw [hYs]; exact Nat.le_refl _))
        (fun x c e => by rw [hYc] at e; exact Nat.ne_of_lt (cellL x c e)) (fun p hp => by rw [hYp] at hp; exact Nat.ne_of_lt (pinL p hp))
      have ep : (its.toArray.push u8) = (its ++ [u8]).toArray := by simp
      obtain ⟨kk, upD⟩ : ∃ kk, (s8.heap.update s2.heap.objs.size (Obj.mapSeq fun xs => xs.push u8)).get? s2.heap.objs.size = some { cls := .type "list", data := .seq (its ++ [u8]).toArray kk } := by
        have z := PySem.IsL.update eD (fun xs => xs.push u8)
        rw [ep] at z
        exact ⟨_, z⟩
      refine ⟨m', hm, i + 1, ys ++ [v8], its ++ [u8], kk, σ7, H8, J9.pins_of fun p hp => ?_, T.keep _ _ _ tn8 fun b hb o e => other b o (Nat.ne_of_lt (fpL b hb)) e, fr8, rv.append (.cons r8 .nil), ?_, w8⟩
      · rcases List.mem_append.mp hp with z | z
        · exact J9.pin p (List.mem_append_right _ z)
        · rw [List.mem_singleton.mp z]
          exact ⟨upD, pD.2.1, by rw [hYl]; exact hDC, by rw [hYf]; exact fun z => absurd (stkL _ z) (Nat.lt_irrefl _), fun v z => by cases z⟩
      · rw [List.length_append, List.length_singleton]; omega
  exact codeAny_compStart_list (loop _ rfl) (T.self _ 0 _ _ _ (T.keep _ _ _ st2 fun b _ o e => old b o e) (loop _ rfl))
theorem pe_comp {X : Cx} {elt tg iter : Expr} {scope : Scope} {cl : List (Str × Addr)} {pos : Pos} {own fv : List Str} {js : List Nat} {wi : TI} {g : TG} {te : TE}
    (hc : X.calm = true) (hi : PI X tg iter wi) (hclos : closureFor scope X.env = pure cl) (hcell : ∀ y ∈ scope.names, y.2 ≠ .cell) (hkind : scope.kind = .function)
    (hnames : ∀ y ∈ scope.names, y.2 = .local → scope.names.lookup y.1 = some .local)
    (hcl : ∀ x c, cl.lookup x = some c → X.env.cells.lookup x = some c)
    (hhas : ∀ x, ((relabel scope X.env).names.lookup x = some .cell ∨ (relabel scope X.env).names.lookup x = some .free) → ∃ c, cl.lookup x = some c)
    (hlen : js.length = fv.length) (hcap : ∀ (i : Nat) x j, fv[i]? = some x → js[i]? = some j → Cap X scope cl x j)
    (hg : ∀ (C : Addr) (ex : List Addr) (s : Shared) (H : Hp), PG (cxComp X (own ++ fv) scope cl C ex s H) tg g)
    (he : ∀ (C : Addr) (ex : List Addr) (s : Shared) (H : Hp), PE (cxComp X (own ++ fv) scope cl C ex s H) elt te)
    (hs : ∀ x, foldedSetIterable iter X.env x = pure x := by intro _; rfl) :
    PE X (.ListComp elt [⟨tg, iter, [], 0⟩] scope pos) (tComp wi own.length js g te) := by
  intro pins s σ H Q I h
  rw [eval_ListComp]
  refine comp_core (use := none) (QQ := EP X pins σ Q) hc hi hclos hcell hkind hnames hcl hhas hlen hcap hg he hs I h fun a C s5 H5 fl I5 zC zL zS zc zp ⟨m, hn⟩ q => ⟨m, hn, fun h' sc => ?_⟩
  exact ⟨.ref a, H5, I5.turned (t' := s5.toks) (it := C) (fun d o nd e => sc.extBut d o nd e) zC zL (.inr zS) zc zp, rfl, q⟩
theorem comp_list {K : PySem.W.Frag} {a : Addr} {xs : List V} {g : TG} {te : TE} {Q : VK} {σ : St} {H : Hp} (Pv : Nat → List V → St → Hp → Prop) (h0 : Pv 0 [] σ H) (hl : ∀ i ys σ H, i ≤ xs.length → Pv i ys σ H → SqL K H a xs)
    (hs : ∀ i x ys σ H, xs[i]? = some x → Pv i ys σ H → ys.length < sizeLine ∧ g x σ H fun σ3 H3 => te σ3 H3 fun v H4 => Pv (i + 1) (ys ++ [v]) σ3 H4) (hd : ∀ ys σ H, Pv xs.length ys σ H → ∀ p, H p = none → Q (.ref p) (upd H p (.lst ys))) :
    ∃ W : Nat → Nat → List V → St → Hp → Prop, (∃ m, W 0 m [] σ H) ∧ ∀ i m ys σ' H', W i m ys σ' H' →
      ((Itl K a).stop i H' ∧ ∀ p, H' p = none → Q (.ref p) (upd H' p (.lst ys))) ∨
      ((Itl K a).go i H' ∧ ys.length < sizeLine ∧ ∃ N : List V → St → Hp → Prop, (∀ zs σ2 H2, N zs σ2 H2 → ∃ m', m' < m ∧ W (i + 1) m' zs σ2 H2) ∧
        ∀ x H2, (Itl K a).yld i H' x H2 → g x σ' H2 fun σ3 H3 => te σ3 H3 fun v H4 => N (ys ++ [v]) σ3 H4) := by
  refine ⟨fun i m ys σ H => m = xs.length - i ∧ i ≤ xs.length ∧ Pv i ys σ H, ⟨xs.length, by simp, Nat.zero_le _, h0⟩, ?_⟩
  rintro i m ys σ H ⟨rfl, hi, p⟩
  have q := hl i ys σ H hi p
  by_cases hlt : i < xs.length
  · have e : xs[i]? = some xs[i] := by simp [hlt]
    refine .inr ⟨⟨xs, xs[i], q, e⟩, (hs i _ ys σ H e p).1, Pv (i + 1), fun zs σ' H' p' => ⟨xs.length - (i + 1), by omega, rfl, hlt, p'⟩, fun x H' y => ?_⟩
    obtain ⟨e, y⟩ := y
    subst e
    exact (hs i x ys σ _ (y xs q) p).2
  · have e : i = xs.length := by omega
    subst e
    exact .inl ⟨⟨xs, q, Nat.le_refl _⟩, hd ys σ H p⟩
theorem comp_tup {K : PySem.W.Frag} {a : Addr} {xs : List V} {g : TG} {te : TE} {Q : VK} {σ : St} {H : Hp} (Pv : Nat → List V → St → Hp → Prop) (h0 : Pv 0 [] σ H) (hl : ∀ i ys σ H, i ≤ xs.length → Pv i ys σ H → SqT K H a xs)
    (hs : ∀ i x ys σ H, xs[i]? = some x → Pv i ys σ H → ys.length < sizeLine ∧ g x σ H fun σ3 H3 => te σ3 H3 fun v H4 => Pv (i + 1) (ys ++ [v]) σ3 H4) (hd : ∀ ys σ H, Pv xs.length ys σ H → ∀ p, H p = none → Q (.ref p) (upd H p (.lst ys))) :
    ∃ W : Nat → Nat → List V → St → Hp → Prop, (∃ m, W 0 m [] σ H) ∧ ∀ i m ys σ' H', W i m ys σ' H' →
      ((Itt K a).stop i H' ∧ ∀ p, H' p = none → Q (.ref p) (upd H' p (.lst ys))) ∨
      ((Itt K a).go i H' ∧ ys.length < sizeLine ∧ ∃ N : List V → St → Hp → Prop, (∀ zs σ2 H2, N zs σ2 H2 → ∃ m', m' < m ∧ W (i + 1) m' zs σ2 H2) ∧
        ∀ x H2, (Itt K a).yld i H' x H2 → g x σ' H2 fun σ3 H3 => te σ3 H3 fun v H4 => N (ys ++ [v]) σ3 H4) := by
  refine ⟨fun i m ys σ H => m = xs.length - i ∧ i ≤ xs.length ∧ Pv i ys σ H, ⟨xs.length, by simp, Nat.zero_le _, h0⟩, ?_⟩
  rintro i m ys σ H ⟨rfl, hi, p⟩
  have q := hl i ys σ H hi p
  by_cases hlt : i < xs.length
  · have e : xs[i]? = some xs[i] := by simp [hlt]
    refine .inr ⟨⟨xs, xs[i], q, e⟩, (hs i _ ys σ H e p).1, Pv (i + 1), fun zs σ' H' p' => ⟨xs.length - (i + 1), by omega, rfl, hlt, p'⟩, fun x H' y => ?_⟩
    obtain ⟨e, y⟩ := y
    subst e
    exact (hs i x ys σ _ (y xs q) p).2
  · have e : i = xs.length := by omega
    subst e
    exact .inl ⟨⟨xs, q, Nat.le_refl _⟩, hd ys σ H p⟩
theorem comp_range {lo : Int} {n : Nat} {g : TG} {te : TE} {Q : VK} {σ : St} {H : Hp} (Pv : Nat → List V → St → Hp → Prop) (h0 : Pv 0 [] σ H)
    (hs : ∀ i ys σ H, i < n → Pv i ys σ H → ys.length < sizeLine ∧ g (.int (lo + i)) σ H fun σ3 H3 => te σ3 H3 fun v H4 => Pv (i + 1) (ys ++ [v]) σ3 H4) (hd : ∀ ys σ H, Pv n ys σ H → ∀ p, H p = none → Q (.ref p) (upd H p (.lst ys))) :
    ∃ W : Nat → Nat → List V → St → Hp → Prop, (∃ m, W 0 m [] σ H) ∧ ∀ i m ys σ' H', W i m ys σ' H' →
      ((Itr lo n).stop i H' ∧ ∀ p, H' p = none → Q (.ref p) (upd H' p (.lst ys))) ∨
      ((Itr lo n).go i H' ∧ ys.length < sizeLine ∧ ∃ N : List V → St → Hp → Prop, (∀ zs σ2 H2, N zs σ2 H2 → ∃ m', m' < m ∧ W (i + 1) m' zs σ2 H2) ∧
        ∀ x H2, (Itr lo n).yld i H' x H2 → g x σ' H2 fun σ3 H3 => te σ3 H3 fun v H4 => N (ys ++ [v]) σ3 H4) := by
  refine ⟨fun i m ys σ H => m = n - i ∧ i ≤ n ∧ Pv i ys σ H, ⟨n, by simp, Nat.zero_le _, h0⟩, ?_⟩
  rintro i m ys σ H ⟨rfl, hi, p⟩
  by_cases hlt : i < n
  · refine .inr ⟨hlt, (hs i ys σ H hlt p).1, Pv (i + 1), fun zs σ' H' p' => ⟨n - (i + 1), by omega, rfl, hlt, p'⟩, fun x H' y => ?_⟩
    obtain ⟨e, y⟩ := y
    subst e y
    exact (hs i ys σ _ hlt p).2
  · have e : i = n := by omega
    subst e
    exact .inl ⟨Nat.le_refl _, hd ys σ H p⟩
end L2
namespace L2
open PySem PySem.Spec PyProof.Rows
theorem own_cls {K : PySem.W.Frag} {h : Heap} {gm : Str → Option Value} {nmX : Str} {Cx' : Addr} {bmX : List Value} {nid : String} (KI : K.In h) (GN : h.Ns mainGlobals gm)
    (hn : PySem.W.nsIn K mainGlobals nmX = some (some (.ref Cx'))) (hq : PySem.W.excIn K Cx' bmX nid = true) : OwnCls nmX Cx' bmX nid gm h := by
  constructor
  · exact PySem.W.mg_of KI GN hn
  · unfold PySem.W.excIn at hq
    split at hq
    · rename_i ddx cdx slx hlk
      split at hq
      · rename_i C2 bm2 f0 f1 f2 f3 nn f5 hmro hsl0
        simp only [Bool.and_eq_true, beq_iff_eq, Bool.not_eq_true'] at hq
        obtain ⟨⟨⟨⟨⟨eC, eN⟩, hdl⟩, htl⟩, hnsok⟩, hinit⟩ := hq
        subst eC eN
        obtain ⟨c1, c2, c3, c4, c5, c6, c7, c8, c9, c10, c11⟩ := cdx
        dsimp only at hmro hdl hnsok hinit
        subst hmro hdl
        have hsl1 : slx = #[f0, f1, f2, f3, some (.builtin nn), f5] := by
          obtain ⟨lst⟩ := slx
          simp only at hsl0
          rw [hsl0]
        subst hsl1
        refine ⟨bm2, c4, c1, c5, c2, c6, c7, c8, c9, c10, ddx, f0, f1, f2, f3, f5, h.nsMap c4, KI _ _ hlk, ?_, ?_, ?_⟩
        · exact .of_isNs (PySem.W.isNs_of_in KI hnsok)
        · exact PySem.W.nsMap_none_of_in KI hnsok hinit
        · exact PySem.W.tail_of_in KI htl
      · cases hq
    · cases hq
def CX1 (P : Program) (w : World) : CXT := fun outer H s E e s' =>
  ∃ (a C : Addr) (a0 : Value) (H' : Hp) (B : Heap), e = .ref a ∧ s'.os = s.os ∧ AllBare s'.gens ∧ Heap.FlyingW B outer a (.ref C) a0 s'.heap ∧
    (∀ b o, s.heap.get? b = some o → H b = none → b ∉ frs outer → B.get? b = some o) ∧ (∀ b o, s.heap.get? b = some o → b ∉ frs outer → ∃ o', B.get? b = some o') ∧
    Un (frs outer) [] H H' s.heap s'.heap ∧ HOk P w H' B ∧ E (.ref C) none H'
section
variable {P : Program} {w : World} {K : PySem.W.Frag} {mg : Str → Option Value} {base : Heap} {N : List Str} {qual : Str} {scope : Scope} {f : Addr} {cd : Value} {A : Around} {outer : List Env} {s : Shared} {H : Hp} {E : XK}
theorem hok_hide {H : Hp} {h : Heap} {l : List Addr} (ok : HOk P w H h) (hl : ∀ b ∈ l, H b = none) : HOk P w H (PySem.W.hideAll h l) := fun b u e => by
  have nb : ∀ c v, H c = some v → c ∉ l := fun c v q z => by rw [hl c z] at q; cases q
  refine (ok b u e).stay (fun c v hc q => PySem.W.hideAll_get _ q ?_) (fun _ q => q) fun _ _ q => q
  rcases hc with z | z
  · rw [z]; exact nb b u e
  · exact nb c _ z
theorem frs_in {l : List Env} : ∀ env ∈ l, ∀ b, env.frame = some b → b ∈ frs l := fun env he b hb => List.mem_filterMap.mpr ⟨env, he, hb⟩
theorem passes1 : Passes (CX1 P w) (cxOf (CX1 P w) P w K mg base N qual scope f cd A outer s H E) E := by
  intro pins σ H1 s1 e s' I hx
  obtain ⟨a, C, a0, H', B, rfl, os, bare, fl, inB, thB, un, okB, hE⟩ := hx
  have hfr : (cxOf (CX1 P w) P w K mg base N qual scope f cd A outer s H E).A.frames = some (envOfC qual scope s.heap.objs.size f cd :: outer) := I.ok.frames
  refine wpAny_leaves_onW hfr rfl fl fun h'' fl'' up'' => ?_
  have Bs : ∀ b o, B.get? b = some o → h''.get? b = some o := fl''.1
  have ub : Un (frs outer) [] H H1 s.heap s1.heap := I.base
  have stk : ∀ b, b ∉ frs outer → b < s.heap.objs.size → b ∉ frs (envOfC qual scope s.heap.objs.size f cd :: outer) := fun b hb hlt z => by
    rcases List.mem_cons.mp (I.stkSub b z) with q | q
    · have q : b = s.heap.objs.size := q
      exact Nat.lt_irrefl _ (q ▸ hlt)
    · exact hb q
  have inB' : ∀ b o, s.heap.get? b = some o → H b = none → b ∉ frs outer → B.get? b = some o := fun b o e n hb =>
    inB b o (ub.keep b o e n hb (by simp)) (ub.free b o e n (by simp)) (stk b hb (Heap.lt_size e))
  have thB' : ∀ b o, s.heap.get? b = some o → b ∉ frs outer → ∃ o', B.get? b = some o' := fun b o e hb => by
    obtain ⟨o1, e1⟩ := ub.there b o e (by simp)
    exact thB b o1 e1 (stk b hb (Heap.lt_size e))
  have sub : ∀ b, b ∈ frs outer → b ∈ frs (envOfC qual scope s.heap.objs.size f cd :: outer) := fun b hb => List.mem_cons_of_mem _ hb
  have slot : ∀ b o, s.heap.get? b = some o → H b = none → b ∈ frs outer → ∃ sl, h''.get? b = some { o with slots := sl } := fun b o e n hb => by
    obtain ⟨sl1, e1⟩ := ub.slot b o e n hb (by simp)
    obtain ⟨sl2, e2⟩ := un.slot b _ e1 (ub.free b o e n (by simp)) (sub b hb) (by simp)
    obtain ⟨_, o3, e3, nf⟩ := I.ok.funs.mem hb
    have e3 : s.heap.get? b = some o3 := e3
    rw [e] at e3; cases e3
    obtain ⟨sl3, e4⟩ := up'' b _ e2 nf
    exact ⟨sl3, e4⟩
  have frf : ∀ b ∈ frs outer, H b = none := I.ok.frf
  refine ⟨a, C, a0, H', B, rfl, os.trans I.os, bare, fl'', inB', thB', ⟨fun b o e n hb _ => Bs _ _ (inB' b o e n hb), fun b o e n hb _ => slot b o e n hb, fun b o e n _ => ?_, fun b o e _ => ?_,
    fun b xs e => un.tups b xs (ub.tups b xs e), fun b o u e => un.frzs b o u (ub.frzs b o u e), fun b ps e => ?_⟩, okB, hE⟩
  · obtain ⟨o1, e1⟩ := ub.there b o e (by simp)
    exact un.free b o1 e1 (ub.free b o e n (by simp)) (by simp)
  · by_cases hb : b ∈ frs outer
    · obtain ⟨sl, q⟩ := slot b o e (frf b hb) hb
      exact ⟨_, q⟩
    · obtain ⟨o', q⟩ := thB' b o e hb
      exact ⟨o', Bs _ _ q⟩
  · obtain ⟨m1, q1⟩ := ub.tbls b ps e
    obtain ⟨m2, q2⟩ := un.tbls b _ q1
    exact ⟨m1 ++ m2, by rw [q2, Array.append_assoc]⟩
def RaisesTo (X : Cx) (Ex : Value → Hp → Prop) : Prop := ∀ (pins : List (Addr × Obj)) (σ : St) (H : Hp) (s : Shared) (h' : Heap) (e C : Addr) (vs : List Value), Inv X pins σ H s → Heap.MadeExcOf s.heap h' e (.ref C) vs → Ex (.ref C) H → X.xe (.ref e) { s with heap := h' }
theorem raises1 : RaisesTo (cxOf (CX1 P w) P w K mg base N qual scope f cd A outer s H E) (fun c H' => E c none H') := by
  intro pins σ H1 s1 h' e C vs I hm hE
  have hfr : (cxOf (CX1 P w) P w K mg base N qual scope f cd A outer s H E).A.frames = some (envOfC qual scope s.heap.objs.size f cd :: outer) := I.ok.frames
  have st : s1.heap.FunFrames base (envOfC qual scope s.heap.objs.size f cd :: outer) := I.stack
  refine wpAny_leaves_madeW (base := PySem.W.hideAll s1.heap (frs (envOfC qual scope s.heap.objs.size f cd :: outer))) hfr rfl (fun b o q => PySem.W.of_hideAll _ q) (PySem.W.funFrames_hide st frs_in) hm fun h'' t fl'' tp nt up'' => ?_
  have ub : Un (frs outer) [] H H1 s.heap s1.heap := I.base
  have Bs := fl''.1
  have stk : ∀ b, b ∉ frs outer → b < s.heap.objs.size → b ∉ frs (envOfC qual scope s.heap.objs.size f cd :: outer) := fun b hb hlt z => by
    rcases List.mem_cons.mp (I.stkSub b z) with q | q
    · have q : b = s.heap.objs.size := q
      exact Nat.lt_irrefl _ (q ▸ hlt)
    · exact hb q
  have inB' : ∀ b o, s.heap.get? b = some o → H b = none → b ∉ frs outer → (PySem.W.hideAll s1.heap (frs (envOfC qual scope s.heap.objs.size f cd :: outer))).get? b = some o := fun b o e n hb =>
    PySem.W.hideAll_get _ (ub.keep b o e n hb (by simp)) (stk b hb (Heap.lt_size e))
  have thB' : ∀ b o, s.heap.get? b = some o → b ∉ frs outer → ∃ o', (PySem.W.hideAll s1.heap (frs (envOfC qual scope s.heap.objs.size f cd :: outer))).get? b = some o' := fun b o e hb => by
    obtain ⟨o1, e1⟩ := ub.there b o e (by simp)
    exact ⟨o1, PySem.W.hideAll_get _ e1 (stk b hb (Heap.lt_size e))⟩
  have slot : ∀ b o, s.heap.get? b = some o → H b = none → b ∈ frs outer → ∃ sl, h''.get? b = some { o with slots := sl } := fun b o e n hb => by
    obtain ⟨sl1, e1⟩ := ub.slot b o e n hb (by simp)
    obtain ⟨_, o3, e3, nf⟩ := I.ok.funs.mem hb
    have e3 : s.heap.get? b = some o3 := e3
    rw [e] at e3; cases e3
    obtain ⟨sl3, e4⟩ := up'' b _ (hm.keeps _ _ e1) nf
    exact ⟨sl3, e4⟩
  have frf : ∀ b ∈ frs outer, H b = none := I.ok.frf
  refine ⟨e, C, .ref t, H1, _, rfl, I.os, I.bare, fl'', inB', thB', ⟨fun b o e n hb _ => Bs _ _ (inB' b o e n hb), fun b o e n hb _ => slot b o e n hb, fun b o e n _ => ub.free b o e n (by simp), fun b o e _ => ?_,
    ub.tups, ub.frzs, ub.tbls⟩, hok_hide I.hok I.stkFree, hE⟩
  by_cases hb : b ∈ frs outer
  · obtain ⟨sl, q⟩ := slot b o e (frf b hb) hb
    exact ⟨_, q⟩
  · obtain ⟨o', q⟩ := thB' b o e hb
    exact ⟨o', Bs _ _ q⟩
end
def tRaise (C : Addr) (Ex : Value → Hp → Prop) (t : TA) : TS := fun _ σ H => t σ H fun vs H1 => vs.length ≤ sizeLine ∧ Ex (.ref C) H1
theorem ps_raise {X : Cx} {x : Str} {C : Addr} {B newId initId : String} {bm : List Value} {np cpos pos : Pos} {e₀ : Expr} {es : List Expr} {t : TA} {Ex : Value → Hp → Prop}
    (FB : ExcBaseFacts B newId initId bm) (hc : X.calm = true) (hg : Gl X x) (hn : PySem.W.nsIn X.K mainGlobals x = some (some (.ref C))) (hq : PySem.W.excIn X.K C bm newId = true) (hx : RaisesTo X Ex) (ha : PA X (e₀ :: es) t)
    (hs : starEach (e₀ :: es) X.env = (false, eval e₀ X.env) :: starEach es X.env := by rfl) (hpl : (backTo cpos (starEach es X.env)).any (·.1) = false := by rfl) (hd : (x == ("__debug__" : Str)) = false := by decide) :
    PS X (.Raise (some (.Call (.Name x np) (e₀ :: es) [] cpos)) none pos) (tRaise C Ex t) := by
  intro pins s σ H D I h
  have O := own_cls I.ok.mod.kin I.ok.mod.glob hn hq
  obtain ⟨tl, Nn, n1, q1, b1, d1, m1, u1, a1, l1, dd1, j0, j1, j2, j3, j5, mN, hC, hN, hni, T⟩ := O.obj
  refine wpAny_Raise_call_subT (C := C) (nm := n1) (q := q1) (N := Nn) (bs := b1) (bm := tl) (hdct := d1) (sn := m1) (sub := u1) (ab := a1) (col := l1) (dd := dd1) (k0 := j0) (k1 := j1) (k2 := j2) (k3 := j3) (k5 := j5) (mN := mN)
    FB (T.hasType FB.hasBase) (I.ok.hd hc) (by rw [hs]; show (false || (backTo cpos (starEach es X.env)).any (·.1)) = false; rw [hpl]; rfl) hni (ld_glob I hg O.bound ⟨rfl, ?_⟩ hd)
  have hA := ha cpos pins s σ H _ I h
  rw [hs] at hA ⊢
  refine Calls.evalArgs_plain (thn hA fun us s2 ⟨vs, H2, I2, r2, hz, hE⟩ => ⟨rfl, ?_, I2.bk _ _ hC, hN.keeps I2.bk, T.keeps I2.bk, fun h' e hm => hx pins σ H2 s2 h' e C us I2 hm hE⟩)
  show us.length ≤ sizeLine
  rw [← r2.length]
  exact hz
section
variable {P : Program} {w : World} {K : PySem.W.Frag} {mg : Str → Option Value} {base : Heap}
theorem Fun.okX {x qual : Str} {st : Stmt} {f : Addr} {fd : FuncData} {N ps : List Str} {k : Nat} {sp : Sp} (F : Fun K x qual st f fd) (S : FnScope N ps (defScope st)) (len : ∀ vs H Q E, sp vs H Q E → vs.length = ps.length)
    (hbody : ∀ (cdv : Value) (A : Around) (outer : List Env) (s : Shared) (H : Hp) (vs : List V) (Q : VK) (E : XK), Room k (A.deeper (envOfC qual (defScope st) s.heap.objs.size f cdv)) → sp vs H Q E →
      ∃ t, PSs (cxOf (CX1 P w) P w K mg base N qual (defScope st) f cdv A outer s H E) (defBody st) t ∧ t { nx := fun _ H' => Q .non H', rt := Q } (start N vs) H) : FnOk P w K mg base (CX1 P w) (k + 1) f fd ps sp := by
  obtain ⟨oc, od, kV, doc, pm, an, cdv, ct, osl, rfl, lk, hcd⟩ := F.ex
  exact fn_of lk hcd S len fun A outer s H vs Q E hr hsp => hbody cdv A outer s H vs Q E hr hsp
theorem FnOk.up {k : Nat} {f : Addr} {fd : FuncData} {ps : List Str} {sp : Sp} (F : FnOk P w K mg base CX0 k f fd ps sp) : FnOk P w K mg base (CX1 P w) k f fd ps sp :=
  ⟨F.len, fun A outer s H args us vs Q E h1 h2 h3 h4 h5 => codeAny_mono (F.run A outer s H args us vs Q E h1 h2 h3 h4 h5) fun r s' q => by
    cases r with
    | error e => exact False.elim q
    | ok fl => cases fl <;> exact q⟩
end
theorem passNo {P : Program} {w : World} {X : Cx} : Passes (CX1 P w) X E0 := fun _ _ _ _ _ _ _ h => by
  obtain ⟨_, _, _, _, _, _, _, _, _, _, _, _, _, q⟩ := h
  exact q.elim
end L2
namespace L2
open PySem PySem.Spec PyProof.Rows
def ExcO (a C : Addr) : HO := .ext fun h => ∃ o vs, h.get? a = some o ∧ o.cls = .ref C ∧ o.data = .fields vs
section
variable {X : Cx} {pins : List (Addr × Obj)} {σ : St} {H : Hp} {s : Shared}
theorem Inv.gone {i : Nat} {x : Str} {v : Option Value} {m : Str → Option Value} {h' : Heap} {t' : Nat} (I : Inv X pins σ H s) (hN : X.N.Nodup) (hi : X.N[i]? = some x) (hk : X.env.scope.names.lookup x = some .local) (hm : s.heap.Ns X.env.locals m)
    (hl : ∀ (j : Nat) (y : Str) (z : V), X.N[j]? = some y → σ[j]? = some (some z) → Vis X.env.scope y → ∃ u, RelV z u ∧ Look X.env s.heap m y u) (hn' : h'.Ns X.env.locals (fun y => if y = x then v else m y)) (hs : Heap.SameBut X.env.locals s.heap h') :
    Inv X pins (σ.set i none) H { s with heap := h', toks := t' } := by
  have hiσ : i < σ.length := by rw [I.len]; exact (List.getElem?_eq_some_iff.mp hi).1
  have cne := I.cne
  have lne : ∀ b o, X.s₀.heap.get? b = some o → b ≠ X.env.locals := fun b o e => Nat.ne_of_lt (Nat.lt_of_lt_of_le (Heap.lt_size e) I.ok.above)
  refine ⟨I.ok, I.os, I.bare, ⟨fun b o e n hb hx => (hs.2 b (lne b o e)).trans (I.base.keep b o e n hb hx), fun b o e n hb hx => ?_, I.base.free, fun b o e hx => ?_, I.base.tups, I.base.frzs, I.base.tbls⟩, ⟨_, hn', fun j y z e1 e2 e3 => ?_⟩,
    fun y c e => ?_, I.free, I.freeC, fun p hp => ?_, fun b ob e => ?_, by simpa using I.len⟩
  · obtain ⟨sl, q⟩ := I.base.slot b o e n hb hx
    exact ⟨sl, (hs.2 b (lne b o e)).trans q⟩
  · obtain ⟨o', q⟩ := I.base.there b o e hx
    exact ⟨o', (hs.2 b (lne b o e)).trans q⟩
  · by_cases hj : j = i
    · subst hj
      rw [List.getElem?_set_self hiσ] at e2
      cases e2
    · rw [List.getElem?_set_ne (Ne.symm hj)] at e2
      obtain ⟨u, r, q⟩ := hl j y z e1 e2 e3
      refine ⟨u, r, ?_⟩
      rcases q with ⟨k, e⟩ | ⟨k, c, e, cz⟩
      · refine .inl ⟨k, ?_⟩
        have ny : y ≠ x := fun e => hj (nodup_ix hN e1 (e ▸ hi))
        simp [ny, e]
      · exact .inr ⟨k, c, e, cz.sameBut hs (cne y c e)⟩
  · obtain ⟨w', z⟩ := I.cell y c e
    exact ⟨w', z.sameBut hs (cne y c e)⟩
  · obtain ⟨e, n, ne, nf, d⟩ := I.pin p hp
    exact ⟨(hs.2 p.1 ne).trans e, n, ne, nf, d⟩
  · refine (I.hok b ob e).stay (fun c w' hc q => (hs.2 c ?_).trans q) (fun _ q => q) fun _ _ q => q
    rintro rfl
    rcases hc with rfl | hc
    · rw [I.free] at e; cases e
    · rw [I.free] at hc; cases hc
theorem Inv.track {a : Addr} {o : HO} (I : Inv X pins σ H s) (hn : H a = none) (new : ObjOk X.prog X.w (upd H a o) s.heap a o) (h1 : a ≠ X.env.locals) (h2 : ∀ x c, X.env.cells.lookup x = some c → c ≠ a) (h3 : ∀ p ∈ X.pn ++ pins, p.1 ≠ a)
    (h4 : X.s₀.heap.get? a = none) : Inv X pins σ (upd H a o) s := by
  have ne : ∀ b u, H b = some u → b ≠ a := fun b u e z => by rw [z, hn] at e; cases e
  have n0 : ∀ b u, X.s₀.heap.get? b = some u → b ≠ a := fun b u e z => by rw [z, h4] at e; cases e
  refine ⟨I.ok, I.os, I.bare, ⟨I.base.keep, I.base.slot, fun b u e n hx => ?_, I.base.there, fun b xs e => ?_, fun b u v e => ?_, fun b ps e => ?_⟩, I.loc, I.cell, ?_, fun x c e => ?_, fun p hp => ?_, fun b u e => ?_, I.len⟩
  · rw [upd_ne (n0 b u e)]; exact I.base.free b u e n hx
  · have q := I.base.tups b xs e
    rw [upd_ne (ne b _ q)]; exact q
  · have q := I.base.frzs b u v e
    rw [upd_ne (ne b _ q)]; exact q
  · obtain ⟨more, q⟩ := I.base.tbls b ps e
    exact ⟨more, by rw [upd_ne (ne b _ q)]; exact q⟩
  · rw [upd_ne (Ne.symm h1)]; exact I.free
  · rw [upd_ne (h2 x c e)]; exact I.freeC x c e
  · obtain ⟨e, n, ne, nf, d⟩ := I.pin p hp
    exact ⟨e, by rw [upd_ne (h3 p hp)]; exact n, ne, nf, d⟩
  · by_cases hb : b = a
    · subst hb; rw [upd_same] at e; cases e; exact new
    · rw [upd_ne hb] at e
      exact (I.hok b u e).stay (fun c v _ q => q) (fun c q => by rw [upd_ne (ne c _ q)]; exact q) fun c xs q => by rw [upd_ne (ne c _ q)]; exact q
end
abbrev Cx.more (X : Cx) (xe : Value → Shared → Prop) (pn : List (Addr × Obj)) : Cx := { X with xe := xe, pn := pn }
abbrev Cx.suite (X : Cx) (a : Addr) (pn : List (Addr × Obj)) : Cx := { X with A := X.A.mark (some (.ref a)), calm := false, xe := fun _ _ => False, pn := pn }
theorem Cx.Ok.more {X : Cx} (ok : X.Ok) (xe : Value → Shared → Prop) (pn : List (Addr × Obj)) : (X.more xe pn).Ok :=
  ⟨ok.mod, ok.kind, ok.glob, ok.blt, ok.above, ok.inj, ok.has, ok.cab, ok.hd, ok.frames, ok.stk, ok.exf, ok.bs, ok.bsz, ok.noex, ok.exfs, ok.funs, ok.frf⟩
theorem Cx.Ok.suite {X : Cx} (ok : X.Ok) (a : Addr) (pn : List (Addr × Obj)) : (X.suite a pn).Ok :=
  ⟨ok.mod, ok.kind, ok.glob, ok.blt, ok.above, ok.inj, ok.has, ok.cab, fun z => absurd z (by show ¬ (false = true); decide), ok.frames, ok.stk, ok.exf, ok.bs, ok.bsz, ok.noex, ok.exfs, ok.funs, ok.frf⟩
def PassesAt (CX : CXT) (X : Cx) (E : XK) (σ : St) : Prop := ∀ (pins : List (Addr × Obj)) (H : Hp) (s : Shared) (e : Value) (s' : Shared), Inv X pins σ H s → CX X.stack H s E e s' → X.xe e s'
section
variable {X : Cx} {CX : CXT} {k : Nat} {f : Addr} {fd : FuncData} {ps : List Str} {sp : Sp} {dvs : List V} {ds : List Value} {EE : St → XK} {x : Str} {p pos : Pos} {e : Expr} {es : List Expr} {t : TA}
def tCallX (sp : Sp) (dvs : List V) (EE : St → XK) (t : TA) : TE := fun σ H Q => t σ H fun vs H1 => sp (vs ++ dvs) H1 Q (EE σ)
theorem pe_callX (F : FnOk X.prog X.w X.K X.mg X.base CX k f fd ps sp) (hr : Room k X.A) (hg : Gl X x) (hm : X.mg x = some (.ref f)) (hk : PySem.W.keepIn X.K (.ref f) = true) (hb : Binds X.K fd ps ds) (hd : Vals dvs ds) (hx : ∀ σ, PassesAt CX X (EE σ) σ)
    (ha : PA X (e :: es) t) (hdb : (x == ("__debug__" : Str)) = false := by decide) (he : starEach (e :: es) X.env = (false, eval e X.env) :: starEach es X.env := by rfl) (hpl : (backTo pos (starEach es X.env)).any (·.1) = false := by rfl) :
    PE X (.Call (.Name x p) (e :: es) [] pos) (tCallX sp dvs EE t) := by
  intro pins s σ H Q I h
  refine wpAny_Call_Name_kw (ld_glob I hg hm ?_ hdb)
  refine PySem.W.callWith_K (h₀ := X.base) I.ok.mod.kin hk (thn (ha pos pins s σ H _ I h) fun us s1 ⟨vs, H1, I1, r, q⟩ => ⟨I1.kIn, ?_⟩) he hpl
  have r2 : Vals (vs ++ dvs) (us ++ ds) := r.append hd
  have hl : (us ++ ds).length = ps.length := by rw [← r2.length]; exact F.len _ _ _ _ q
  refine wpAny_call (codeAny_mono (F.run X.A X.stack s1 H1 ⟨us, []⟩ (us ++ ds) (vs ++ dvs) Q (EE σ) hr I1.env0 (hb s1 us I1.kIn hl) r2 q) fun r s' hq => ?_)
  cases r with
  | error e => exact hx σ pins H1 s1 e s' I1 hq
  | ok fl =>
    cases fl with
    | ret u => exact I1.after hq
    | next => exact False.elim hq
    | brk => exact False.elim hq
    | cont => exact False.elim hq
end
def goneEnds (D : Ends) (i : Nat) : Ends := { nx := fun σ H => D.nx (σ.set i none) H, rt := D.rt, bk := fun σ H => D.bk (σ.set i none) H, ct := fun σ H => D.ct (σ.set i none) H }
def caughtBy (C : Addr) (i : Nat) (ts : TS) (D : Ends) : St → XK := fun σ1 cls _ H1 => cls = .ref C ∧ ∀ a, H1 a = none → ts (goneEnds D i) (σ1.set i (some (.ref a))) (upd H1 a (ExcO a C))
def tTry (C : Addr) (i : Nat) (tb : (St → XK) → TS) (ts : TS) : TS := fun D σ H => tb (caughtBy C i ts D) D σ H
end L2
namespace L2
open PySem PySem.Spec PyProof.Rows
structure Callee (P : Program) (w : World) (K : PySem.W.Frag) (mg : Str → Option Value) (base : Heap) (CX : CXT) (k : Nat) (x : Str) (ps : List Str) (sp : Sp) : Prop where
  has : ∃ (f : Addr) (fd : FuncData), FnOk P w K mg base CX k f fd ps sp ∧ mg x = some (.ref f) ∧ PySem.W.keepIn K (.ref f) = true ∧ Binds K fd ps []
theorem Callee.mk' {P : Program} {w : World} {K : PySem.W.Frag} {mg : Str → Option Value} {base : Heap} {CX : CXT} {k : Nat} {x qual : Str} {st : Stmt} {f : Addr} {fd : FuncData} {ps : List Str} {sp : Sp} (F : Fun K x qual st f fd) (m : mg x = some (.ref f)) (b : Binds K fd ps [])
    (ok : FnOk P w K mg base CX k f fd ps sp) : Callee P w K mg base CX k x ps sp := ⟨⟨f, fd, ok, m, F.kp, b⟩⟩
theorem Callee.mono {P : Program} {w : World} {K : PySem.W.Frag} {mg : Str → Option Value} {base : Heap} {CX : CXT} {j k : Nat} {x : Str} {ps : List Str} {sp : Sp} (c : Callee P w K mg base CX j x ps sp) (h : j ≤ k) : Callee P w K mg base CX k x ps sp :=
  let ⟨f, fd, ok, m, kp, b⟩ := c.has; ⟨⟨f, fd, ok.mono h, m, kp, b⟩⟩
section
variable {X : Cx} {CX : CXT} {k : Nat} {ps : List Str} {sp : Sp} {E : XK} {x : Str} {p pos : Pos} {e : Expr} {es : List Expr} {t : TA}
theorem pe_cal (c : Callee X.prog X.w X.K X.mg X.base CX k x ps sp) (hr : Room k X.A) (hg : Gl X x) (hx : Passes CX X E) (ha : PA X (e :: es) t) (hdb : (x == ("__debug__" : Str)) = false := by decide)
    (he : starEach (e :: es) X.env = (false, eval e X.env) :: starEach es X.env := by rfl) (hpl : (backTo pos (starEach es X.env)).any (·.1) = false := by rfl) : PE X (.Call (.Name x p) (e :: es) [] pos) (tCall sp [] E t) := by
  obtain ⟨f, fd, ok, m, kp, b⟩ := c.has
  exact pe_call ok hr hg m kp b .nil hx ha hdb he hpl
theorem pe_calX {EE : St → XK} (c : Callee X.prog X.w X.K X.mg X.base CX k x ps sp) (hr : Room k X.A) (hg : Gl X x) (hx : ∀ σ, PassesAt CX X (EE σ) σ) (ha : PA X (e :: es) t) (hdb : (x == ("__debug__" : Str)) = false := by decide)
    (he : starEach (e :: es) X.env = (false, eval e X.env) :: starEach es X.env := by rfl) (hpl : (backTo pos (starEach es X.env)).any (·.1) = false := by rfl) : PE X (.Call (.Name x p) (e :: es) [] pos) (tCallX sp [] EE t) := by
  obtain ⟨f, fd, ok, m, kp, b⟩ := c.has
  exact pe_callX ok hr hg m kp b .nil hx ha hdb he hpl
theorem call_isi : CallR X (.builtin "isinstance") (fun xs H Q => ∃ x n t b, xs = [x, .ty n] ∧ TyOf X.K H x t ∧ PySem.W.kitOne X.K t (.type n) = some b ∧ Q (.bl b) H) := by
  intro pins s σ H xs us Q I r h
  obtain ⟨x, n, t, b, rfl, ty, e, q⟩ := h
  obtain ⟨u, w', rfl, rx, ry⟩ := vals2 r
  cases (show w' = Value.type n from ry)
  exact isinst_ok I rx ty e fun tk => ⟨.bl b, H, I.tok tk, rfl, q⟩
end
end L2
namespace L2
open PySem PySem.Spec PyProof.Rows
theorem relabel_none {scope : Scope} {env : Env} (hfree : ∀ y ∈ scope.names, y.2 ≠ .free) : (relabel scope env).names = scope.names := by
  show scope.names.map _ = scope.names
  have all : ∀ l : List (Str × NameKind), (∀ y ∈ l, y.2 ≠ .free) → (l.map fun (x : Str × NameKind) => match x with | (n, k) => if (k == .free && env.scope.kind == .function && env.kindOf n == some .cell) then (n, .cell) else (n, k)) = l := by
    intro l
    induction l with
    | nil => intro _; rfl
    | cons y r ih =>
      intro hy
      obtain ⟨n, k⟩ := y
      have hk : (k == NameKind.free) = false := by simpa using hy (n, k) (List.mem_cons_self ..)
      rw [List.map_cons, ih fun z hz => hy z (List.mem_cons_of_mem _ hz)]
      simp [hk]
  exact all _ hfree
theorem pe_comp0 {X : Cx} {elt tg iter : Expr} {scope : Scope} {pos : Pos} {own : List Str} {wi : TI} {g : TG} {te : TE}
    (hc : X.calm = true) (hi : PI X tg iter wi) (hcell : ∀ y ∈ scope.names, y.2 ≠ .cell) (hfree : ∀ y ∈ scope.names, y.2 ≠ .free) (hkind : scope.kind = .function)
    (hnames : ∀ y ∈ scope.names, y.2 = .local → scope.names.lookup y.1 = some .local)
    (hg : ∀ (C : Addr) (ex : List Addr) (s : Shared) (H : Hp), PG (cxComp X own scope [] C ex s H) tg g)
    (he : ∀ (C : Addr) (ex : List Addr) (s : Shared) (H : Hp), PE (cxComp X own scope [] C ex s H) elt te)
    (hs : ∀ x, foldedSetIterable iter X.env x = pure x := by intro _; rfl) :
    PE X (.ListComp elt [⟨tg, iter, [], 0⟩] scope pos) (tComp wi own.length [] g te) := by
  refine pe_comp (own := own) (fv := []) (js := []) (cl := []) hc hi (closureFor_none hfree) hcell hkind hnames (fun x c h => by cases h) (fun x h => ?_) rfl (fun i x j h => by simp at h) (by simpa using hg) (by simpa using he) hs
  rw [relabel_none hfree] at h
  rcases h with h | h
  · exact absurd rfl (hcell _ (PySem.mem_of_lookup h))
  · exact absurd rfl (hfree _ (PySem.mem_of_lookup h))
end L2
namespace L2
open PySem PySem.Spec PyProof.Rows
def CDivW (i j : Int) : Prop := j ≠ 0 ∧ -18446744073709551616 < j ∧ j < 18446744073709551616
theorem log_small {y : Int} (h0 : -18446744073709551616 < y) (h1 : y < 18446744073709551616) : y.natAbs.log2 < 9000 := by
  by_cases z : y.natAbs = 0
  · rw [z]; decide
  · exact Nat.lt_of_lt_of_le ((Nat.log2_lt z).mpr (show y.natAbs < 2 ^ 64 by omega)) (by decide)
theorem op_fdivW {X : Cx} : OpR X (binaryOp .FloorDiv) (rI CDivW fun i j => .int (i.fdiv j)) := opI fun _ _ _ _ _ _ _ hc q => floordiv_int hc.1 q (.inl (PyProof.noPylong_of_log2 (log_small hc.2.1 hc.2.2)))
end L2
namespace L2
open PySem PySem.Spec PyProof.Rows
section
variable {K : PySem.W.Frag}
def LoopL (K : PySem.W.Frag) (g : TG) (tb : TS) (D : Ends) (σ : St) (x : V) (H1 : Hp) : Prop := ∃ a, x = .ref a ∧ (∃ xs, SqL K H1 a xs) ∧ ∃ W : Nat → Nat → St → Hp → Prop, (∃ m, W 0 m σ H1) ∧ ∀ i m σ H, W i m σ H →
  ((Itl K a).stop i H ∧ D.nx σ H) ∨ ((Itl K a).go i H ∧ ∃ N : St → Hp → Prop, (∀ σ' H', N σ' H' → ∃ m', m' < m ∧ W (i + 1) m' σ' H') ∧ ∀ x H', (Itl K a).yld i H x H' → g x σ H' fun σ2 H2 => tb { D with nx := N, ct := N, bk := D.nx } σ2 H2)
def LoopT (K : PySem.W.Frag) (g : TG) (tb : TS) (D : Ends) (σ : St) (x : V) (H1 : Hp) : Prop := ∃ a, x = .ref a ∧ (∃ xs, SqT K H1 a xs) ∧ ∃ W : Nat → Nat → St → Hp → Prop, (∃ m, W 0 m σ H1) ∧ ∀ i m σ H, W i m σ H →
  ((Itt K a).stop i H ∧ D.nx σ H) ∨ ((Itt K a).go i H ∧ ∃ N : St → Hp → Prop, (∀ σ' H', N σ' H' → ∃ m', m' < m ∧ W (i + 1) m' σ' H') ∧ ∀ x H', (Itt K a).yld i H x H' → g x σ H' fun σ2 H2 => tb { D with nx := N, ct := N, bk := D.nx } σ2 H2)
def LoopR (lo : Int) (n : Nat) (g : TG) (tb : TS) (D : Ends) (σ : St) (H1 : Hp) : Prop := ∃ W : Nat → Nat → St → Hp → Prop, (∃ m, W 0 m σ H1) ∧ ∀ i m σ H, W i m σ H →
  ((Itr lo n).stop i H ∧ D.nx σ H) ∨ ((Itr lo n).go i H ∧ ∃ N : St → Hp → Prop, (∀ σ' H', N σ' H' → ∃ m', m' < m ∧ W (i + 1) m' σ' H') ∧ ∀ x H', (Itr lo n).yld i H x H' → g x σ H' fun σ2 H2 => tb { D with nx := N, ct := N, bk := D.nx } σ2 H2)
theorem for_eqL {te : TE} {g : TG} {tb : TS} {D : Ends} {σ : St} {H : Hp} : tFor (iList K te) g tb D σ H = te σ H fun x H1 => LoopL K g tb D σ x H1 := rfl
theorem for_eqT {te : TE} {g : TG} {tb : TS} {D : Ends} {σ : St} {H : Hp} : tFor (iTup K te) g tb D σ H = te σ H fun x H1 => LoopT K g tb D σ x H1 := rfl
theorem for_eqR1 {ta : TA} {g : TG} {tb : TS} {D : Ends} {σ : St} {H : Hp} : tFor (iRng1 ta) g tb D σ H = ta σ H fun vs H1 => ∃ j : Int, vs = [.int j] ∧ -(2 ^ 62) ≤ j ∧ j < 2 ^ 62 ∧ LoopR 0 j.toNat g tb D σ H1 := rfl
theorem for_eqR2 {ta : TA} {g : TG} {tb : TS} {D : Ends} {σ : St} {H : Hp} : tFor (iRng2 ta) g tb D σ H = ta σ H fun vs H1 => ∃ i j : Int, vs = [.int i, .int j] ∧ (-(2 ^ 62) ≤ i ∧ i < 2 ^ 62 ∧ -(2 ^ 62) ≤ j ∧ j < 2 ^ 62) ∧ LoopR i (j - i).toNat g tb D σ H1 := rfl
theorem LoopL.mk {a : Addr} {xs : List V} {g : TG} {tb : TS} {D : Ends} {σ : St} {H : Hp} (hS : SqL K H a xs) (Pv : Nat → St → Hp → Prop) (h0 : Pv 0 σ H) (hl : ∀ i σ H, i ≤ xs.length → Pv i σ H → SqL K H a xs)
    (hs : ∀ i x σ H, xs[i]? = some x → Pv i σ H → g x σ H fun σ2 H2 => tb { D with nx := Pv (i + 1), ct := Pv (i + 1), bk := D.nx } σ2 H2) (hd : ∀ σ H, Pv xs.length σ H → D.nx σ H) : LoopL K g tb D σ (.ref a) H := ⟨a, rfl, ⟨xs, hS⟩, for_list Pv h0 hl hs hd⟩
theorem LoopT.mk {a : Addr} {xs : List V} {g : TG} {tb : TS} {D : Ends} {σ : St} {H : Hp} (hS : SqT K H a xs) (Pv : Nat → St → Hp → Prop) (h0 : Pv 0 σ H) (hl : ∀ i σ H, i ≤ xs.length → Pv i σ H → SqT K H a xs)
    (hs : ∀ i x σ H, xs[i]? = some x → Pv i σ H → g x σ H fun σ2 H2 => tb { D with nx := Pv (i + 1), ct := Pv (i + 1), bk := D.nx } σ2 H2) (hd : ∀ σ H, Pv xs.length σ H → D.nx σ H) : LoopT K g tb D σ (.ref a) H := ⟨a, rfl, ⟨xs, hS⟩, for_tup Pv h0 hl hs hd⟩
theorem LoopR.mk {lo : Int} {n : Nat} {g : TG} {tb : TS} {D : Ends} {σ : St} {H : Hp} (Pv : Nat → St → Hp → Prop) (h0 : Pv 0 σ H)
    (hs : ∀ i σ H, i < n → Pv i σ H → g (.int (lo + i)) σ H fun σ2 H2 => tb { D with nx := Pv (i + 1), ct := Pv (i + 1), bk := D.nx } σ2 H2) (hd : ∀ σ H, Pv n σ H → D.nx σ H) : LoopR lo n g tb D σ H := for_range Pv h0 hs hd
def CompL (K : PySem.W.Frag) (k : Nat) (js : List Nat) (g : TG) (te : TE) (σ : St) (x : V) (H1 : Hp) (Q : VK) : Prop := ∃ a, x = .ref a ∧ (∃ xs, SqL K H1 a xs) ∧ ∃ W : Nat → Nat → List V → St → Hp → Prop, (∃ m, W 0 m [] (compSt k js σ) H1) ∧ ∀ i m ys σ' H', W i m ys σ' H' →
    ((Itl K a).stop i H' ∧ ∀ p, H' p = none → Q (.ref p) (upd H' p (.lst ys))) ∨
    ((Itl K a).go i H' ∧ ys.length < sizeLine ∧ ∃ N : List V → St → Hp → Prop, (∀ zs σ2 H2, N zs σ2 H2 → ∃ m', m' < m ∧ W (i + 1) m' zs σ2 H2) ∧ ∀ x H2, (Itl K a).yld i H' x H2 → g x σ' H2 fun σ3 H3 => te σ3 H3 fun v H4 => N (ys ++ [v]) σ3 H4)
def CompT (K : PySem.W.Frag) (k : Nat) (js : List Nat) (g : TG) (te : TE) (σ : St) (x : V) (H1 : Hp) (Q : VK) : Prop := ∃ a, x = .ref a ∧ (∃ xs, SqT K H1 a xs) ∧ ∃ W : Nat → Nat → List V → St → Hp → Prop, (∃ m, W 0 m [] (compSt k js σ) H1) ∧ ∀ i m ys σ' H', W i m ys σ' H' →
    ((Itt K a).stop i H' ∧ ∀ p, H' p = none → Q (.ref p) (upd H' p (.lst ys))) ∨
    ((Itt K a).go i H' ∧ ys.length < sizeLine ∧ ∃ N : List V → St → Hp → Prop, (∀ zs σ2 H2, N zs σ2 H2 → ∃ m', m' < m ∧ W (i + 1) m' zs σ2 H2) ∧ ∀ x H2, (Itt K a).yld i H' x H2 → g x σ' H2 fun σ3 H3 => te σ3 H3 fun v H4 => N (ys ++ [v]) σ3 H4)
def CompR (lo : Int) (n k : Nat) (js : List Nat) (g : TG) (te : TE) (σ : St) (H1 : Hp) (Q : VK) : Prop := ∃ W : Nat → Nat → List V → St → Hp → Prop, (∃ m, W 0 m [] (compSt k js σ) H1) ∧ ∀ i m ys σ' H', W i m ys σ' H' →
    ((Itr lo n).stop i H' ∧ ∀ p, H' p = none → Q (.ref p) (upd H' p (.lst ys))) ∨
    ((Itr lo n).go i H' ∧ ys.length < sizeLine ∧ ∃ N : List V → St → Hp → Prop, (∀ zs σ2 H2, N zs σ2 H2 → ∃ m', m' < m ∧ W (i + 1) m' zs σ2 H2) ∧ ∀ x H2, (Itr lo n).yld i H' x H2 → g x σ' H2 fun σ3 H3 => te σ3 H3 fun v H4 => N (ys ++ [v]) σ3 H4)
theorem comp_eqL {k : Nat} {js : List Nat} {ti : TE} {g : TG} {te : TE} {σ : St} {H : Hp} {Q : VK} : tComp (iList K ti) k js g te σ H Q = ti σ H fun x H1 => CompL K k js g te σ x H1 Q := rfl
theorem comp_eqT {k : Nat} {js : List Nat} {ti : TE} {g : TG} {te : TE} {σ : St} {H : Hp} {Q : VK} : tComp (iTup K ti) k js g te σ H Q = ti σ H fun x H1 => CompT K k js g te σ x H1 Q := rfl
theorem comp_eqR1 {k : Nat} {js : List Nat} {ta : TA} {g : TG} {te : TE} {σ : St} {H : Hp} {Q : VK} : tComp (iRng1 ta) k js g te σ H Q = ta σ H fun vs H1 => ∃ j : Int, vs = [.int j] ∧ -(2 ^ 62) ≤ j ∧ j < 2 ^ 62 ∧ CompR 0 j.toNat k js g te σ H1 Q := rfl
theorem CompL.mk {a : Addr} {xs : List V} {k : Nat} {js : List Nat} {g : TG} {te : TE} {Q : VK} {σ : St} {H : Hp} (hS : SqL K H a xs) (Pv : Nat → List V → St → Hp → Prop) (h0 : Pv 0 [] (compSt k js σ) H) (hl : ∀ i ys σ H, i ≤ xs.length → Pv i ys σ H → SqL K H a xs)
    (hs : ∀ i x ys σ H, xs[i]? = some x → Pv i ys σ H → ys.length < sizeLine ∧ g x σ H fun σ3 H3 => te σ3 H3 fun v H4 => Pv (i + 1) (ys ++ [v]) σ3 H4) (hd : ∀ ys σ H, Pv xs.length ys σ H → ∀ p, H p = none → Q (.ref p) (upd H p (.lst ys))) :
    CompL K k js g te σ (.ref a) H Q := ⟨a, rfl, ⟨xs, hS⟩, comp_list Pv h0 hl hs hd⟩
theorem CompT.mk {a : Addr} {xs : List V} {k : Nat} {js : List Nat} {g : TG} {te : TE} {Q : VK} {σ : St} {H : Hp} (hS : SqT K H a xs) (Pv : Nat → List V → St → Hp → Prop) (h0 : Pv 0 [] (compSt k js σ) H) (hl : ∀ i ys σ H, i ≤ xs.length → Pv i ys σ H → SqT K H a xs)
    (hs : ∀ i x ys σ H, xs[i]? = some x → Pv i ys σ H → ys.length < sizeLine ∧ g x σ H fun σ3 H3 => te σ3 H3 fun v H4 => Pv (i + 1) (ys ++ [v]) σ3 H4) (hd : ∀ ys σ H, Pv xs.length ys σ H → ∀ p, H p = none → Q (.ref p) (upd H p (.lst ys))) :
    CompT K k js g te σ (.ref a) H Q := ⟨a, rfl, ⟨xs, hS⟩, comp_tup Pv h0 hl hs hd⟩
theorem CompR.mk {lo : Int} {n k : Nat} {js : List Nat} {g : TG} {te : TE} {Q : VK} {σ : St} {H : Hp} (Pv : Nat → List V → St → Hp → Prop) (h0 : Pv 0 [] (compSt k js σ) H)
    (hs : ∀ i ys σ H, i < n → Pv i ys σ H → ys.length < sizeLine ∧ g (.int (lo + i)) σ H fun σ3 H3 => te σ3 H3 fun v H4 => Pv (i + 1) (ys ++ [v]) σ3 H4) (hd : ∀ ys σ H, Pv n ys σ H → ∀ p, H p = none → Q (.ref p) (upd H p (.lst ys))) :
    CompR lo n k js g te σ H Q := comp_range Pv h0 hs hd
end
theorem cxOf_K {CX : CXT} {P : Program} {w : World} {K : PySem.W.Frag} {mg : Str → Option Value} {base : Heap} {N : List Str} {qual : Str} {scope : Scope} {f : Addr} {cd : Value} {A : Around} {outer : List Env} {s : Shared} {H : Hp} {E : XK} : (cxOf CX P w K mg base N qual scope f cd A outer s H E).K = K := rfl
theorem cxComp_K {X : Cx} {N : List Str} {scope : Scope} {cl : List (Str × Addr)} {C : Addr} {ex : List Addr} {s : Shared} {H : Hp} : (cxComp X N scope cl C ex s H).K = X.K := rfl
def tyS : V → Option String
  | .int _ => some "int"
  | .bl _ => some "bool"
  | .str _ => some "str"
  | .non => some "NoneType"
  | _ => none
def isiN (t n : String) : Bool := t == n || (t == "bool" && n == "int")
def isiB (x : V) (n : String) : Bool := match tyS x with
  | some t => isiN t n
  | none => false
theorem isi_ii {i : Int} : isiB (.int i) "int" = true := by show isiN "int" "int" = true; decide +kernel
theorem isi_ib {i : Int} : isiB (.int i) "bool" = false := by show isiN "int" "bool" = false; decide +kernel
theorem isi_bi {b : Bool} : isiB (.bl b) "int" = true := by show isiN "bool" "int" = true; decide +kernel
theorem isi_bb {b : Bool} : isiB (.bl b) "bool" = true := by show isiN "bool" "bool" = true; decide +kernel
theorem isi_it {i : Int} : isiB (.int i) "tuple" = false := by show isiN "int" "tuple" = false; decide +kernel
theorem kit_type {K : PySem.W.Frag} {t n : String} {b : Bool} (e : (if (Value.type t == Value.type n) = true then some true else if PySem.W.kitMeta n = true then (fastBuiltinMro t).map (·.contains (.type n)) else none) = some b) : PySem.W.kitOne K (.type t) (.type n) = some b := by
  unfold PySem.W.kitOne
  split at e
  · rename_i h; rw [if_pos h]; exact e
  · rename_i h; rw [if_neg h]; exact e
theorem kit_plain {K : PySem.W.Frag} {x : V} {t n : String} (hn : n ∈ ["int", "bool", "tuple", "list", "str"]) (ht : tyS x = some t) : PySem.W.kitOne K (.type t) (.type n) = some (isiB x n) := by
  simp only [List.mem_cons, List.mem_nil_iff, or_false] at hn
  cases x <;> simp only [tyS, reduceCtorEq, Option.some.injEq] at ht <;> subst ht <;> rcases hn with rfl | rfl | rfl | rfl | rfl <;> refine kit_type ?_ <;> simp only [isiB, tyS] <;> decide +kernel
theorem call_isiS {X : Cx} : CallR X (.builtin "isinstance") (fun xs H Q => ∃ x n, xs = [x, .ty n] ∧ (n ∈ ["int", "bool", "tuple", "list", "str"] ∧ (tyS x).isSome = true) ∧ Q (.bl (isiB x n)) H) := by
  intro pins s σ H xs us Q I r h
  obtain ⟨x, n, rfl, ⟨hn, hx⟩, q⟩ := h
  obtain ⟨t, ht⟩ := Option.isSome_iff_exists.mp hx
  refine call_isi pins s σ H _ us Q I r ⟨x, n, .type t, isiB x n, rfl, ?_, kit_plain hn ht, q⟩
  cases x <;> simp only [tyS, reduceCtorEq, Option.some.injEq] at ht <;> subst ht
  · exact .non
  · exact .bl _
  · exact .int _
  · exact .str _
end L2
namespace L2
open PySem PySem.Spec PyProof.Rows
theorem na2 : (Int.natAbs 2 < 18446744073709551616) = True := eq_true (by decide)
theorem na10 : (Int.natAbs 10 < 18446744073709551616) = True := eq_true (by decide)
theorem same_new {H : Hp} {p : Addr} (h : H p = none) (o : HO) : Same H (upd H p o) := fun b u q => by rw [upd_ne (ne_of_none q h)]; exact q
theorem small {n : Nat} (h : n ≤ 1000) : n ≤ sizeLine := Nat.le_of_lt (small1000 h)
theorem Same.tup {K : PySem.W.Frag} {H H' : Hp} {a : Addr} {xs : List V} (e : Same H H') (h : SqT K H a xs) : SqT K H' a xs := by
  rcases h with (h | ⟨o, h⟩) | h
  · exact .inl (.inl (e _ _ h))
  · exact .inl (.inr ⟨o, e _ _ h⟩)
  · exact .inr h
theorem st_one {σ : St} (h : σ.length = 1) : ∃ z, σ = [z] := by
  match σ, h with
  | [z], _ => exact ⟨z, rfl⟩
theorem take_succ' {α : Type} {l : List α} {i : Nat} {x : α} (h : l[i]? = some x) : l.take (i + 1) = l.take i ++ [x] := by
  rw [List.take_succ, h]; rfl
theorem CompL.vals {K : PySem.W.Frag} {a : Addr} {xs : List V} {te : TE} {Q : VK} {σ : St} {H : Hp} {fn : V → V} (hS : SqL K H a xs) (hz : xs.length ≤ 1000)
    (hs : ∀ x ∈ xs, ∀ H1, Same H H1 → ∀ Q' : VK, (∀ H2, Same H1 H2 → Q' (fn x) H2) → te [some x] H1 Q')
    (hd : ∀ H1, Same H H1 → ∀ p, H1 p = none → Q (.ref p) (upd H1 p (.lst (xs.map fn)))) : CompL K 1 [] (gName 0) te σ (.ref a) H Q := by
  refine CompL.mk hS (fun i ys σ' H' => Same H H' ∧ ys = (xs.take i).map fn ∧ σ'.length = 1) ⟨Same.refl _, rfl, rfl⟩ (fun i ys σ' H' _ h => h.1.seq hS) (fun i x ys σ' H' e h => ?_) (fun ys σ' H' h p hp => ?_)
  · obtain ⟨h1, rfl, h3⟩ := h
    obtain ⟨z, rfl⟩ := st_one h3
    refine ⟨?_, ?_⟩
    · rw [List.length_map, List.length_take]
      exact Nat.lt_of_le_of_lt (Nat.min_le_right _ _) (small1000 hz)
    · refine hs x (List.mem_of_getElem? e) H' h1 _ fun H2 h2 => ⟨h1.trans h2, ?_, rfl⟩
      rw [take_succ' e, List.map_append]; rfl
  · obtain ⟨h1, rfl, h3⟩ := h
    rw [List.take_length]
    exact hd H' h1 p hp
theorem CompL.ints {K : PySem.W.Frag} {a : Addr} {ns : List Int} {te : TE} {Q : VK} {σ : St} {H : Hp} {fn : Int → Int} (hS : SqL K H a (ns.map V.int)) (hz : ns.length ≤ 1000)
    (hs : ∀ n ∈ ns, ∀ H1, Same H H1 → ∀ Q' : VK, (∀ H2, Same H1 H2 → Q' (.int (fn n)) H2) → te [some (.int n)] H1 Q')
    (hd : ∀ H1, Same H H1 → ∀ p, H1 p = none → Q (.ref p) (upd H1 p (.lst ((ns.map fn).map V.int)))) : CompL K 1 [] (gName 0) te σ (.ref a) H Q := by
  refine CompL.vals (fn := fun x => match x with | .int n => .int (fn n) | y => y) hS (by rw [List.length_map]; exact hz) (fun x hx H1 h1 Q' h2 => ?_) (fun H1 h1 p hp => ?_)
  · obtain ⟨n, hn, rfl⟩ := List.mem_map.mp hx
    exact hs n hn H1 h1 Q' h2
  · have e := hd H1 h1 p hp
    rw [List.map_map] at e ⊢
    exact e
end L2
namespace L2
open PySem PySem.Spec PyProof.Rows
section
variable {X : Cx}
def rInT : R2 := fun x y H Q => ∃ p xs, y = .ref p ∧ H p = some (.tup xs) ∧ flatV x = true ∧ xs.all flatV = true ∧ Q (.bl (inV x xs)) H
def rInL : R2 := fun x y H Q => ∃ p xs, y = .ref p ∧ H p = some (.lst xs) ∧ flatV x = true ∧ xs.all flatV = true ∧ Q (.bl (inV x xs)) H
def rIxLH : R2 := fun x y H Q => ∃ p xs i v, x = .ref p ∧ y = .int i ∧ H p = some (.lst xs) ∧ atI xs i = some v ∧ Q v H
def rIxTH : R2 := fun x y H Q => ∃ p xs i v, x = .ref p ∧ y = .int i ∧ H p = some (.tup xs) ∧ atI xs i = some v ∧ Q v H
theorem ix_listH : IxR X rIxLH := by
  intro value slice pins s σ H x y v u Q I rx ry h hs
  obtain ⟨p, xs, i, z, rfl, rfl, hq, he, q⟩ := h
  exact ix_list value slice pins s σ H _ _ v u Q I rx ry ⟨p, xs, i, z, rfl, rfl, .of hq, he, q⟩ hs
theorem ix_tupH : IxR X rIxTH := by
  intro value slice pins s σ H x y v u Q I rx ry h hs
  obtain ⟨p, xs, i, z, rfl, rfl, hq, he, q⟩ := h
  exact ix_tup value slice pins s σ H _ _ v u Q I rx ry ⟨p, xs, i, z, rfl, rfl, .of hq, he, q⟩ hs
end
end L2
namespace L2
open PySem PySem.Spec PyProof.Rows
section
variable {X : Cx}
def gTupH (n : Nat) (t : TGs) : TG := fun v σ H Q => ∃ a xs, v = .ref a ∧ H a = some (.tup xs) ∧ xs.length = n ∧ t xs σ H Q
theorem pg_tupH {es : List Expr} {k : Nat} {pos : Pos} {t : TGs} {n : Nat} (h : PG X (.Tuple es k pos) (gTup X.K n t)) : PG X (.Tuple es k pos) (gTupH n t) := by
  intro pins s σ H v u Q I r q
  obtain ⟨a, xs, e, ha, hl, q⟩ := q
  exact h pins s σ H v u Q I r ⟨a, xs, e, .of ha, hl, q⟩
def tApp (to te : TE) : TE := fun σ H Q => to σ H fun x H1 => ∃ l, x = .ref l ∧ (∃ xs, H1 l = some (.lst xs)) ∧ te σ H1 fun v H2 => ∃ xs, H2 l = some (.lst xs) ∧ xs.length < sizeLine ∧ Q .non (upd H2 l (.lst (xs ++ [v])))
theorem pe_app {o e : Expr} {to te : TE} {apos cpos : Pos} (ho : PE X o to) (he : PE X e te)
    (hbase : attributeBase o "append" X.env (eval o X.env) = eval o X.env := by rfl) (hfew : ((backTo cpos (starEach [e] X.env)).all (fun x => !x.1) && (backToKw cpos (keywordEach [] X.env)).all (fun x => x.1.isSome)
      && decide ([e].length + ([] : List Keyword).length + (if ([] : List Keyword).isEmpty then 0 else 1) < 30)) = true := by rfl)
    (hline : (apos.endLine == cpos.line) = true := by rfl) (hs : starEach [e] X.env = [(false, eval e X.env)] := by rfl) : PE X (.Call (.Attribute o "append" apos) [e] [] cpos) (tApp to te) := by
  intro pins s σ H Q I h
  refine wpAny_Call_method_late hbase hfew hline rfl (thn (ho pins s σ H _ I h) fun v s1 ⟨x, H1, I1, r1, q1⟩ => ?_)
  obtain ⟨l, rfl, ⟨xs1, hx1⟩, q2⟩ := q1
  obtain ⟨h1, h2⟩ := tyV_is (T := "list") I1 r1 (.inl ⟨rfl, _, .of hx1⟩)
  refine ⟨"list", "list.append", PySem.F.plainAttrs_list, PySem.F.slot_list_append, PySem.F.type_list_append, h1, h2, ?_⟩
  have hA := (pa_cons he pa_nil hs) cpos pins s1 σ H1 (fun vs H2 => match vs with | [v] => ∃ xs, H2 l = some (.lst xs) ∧ xs.length < sizeLine ∧ Q .non (upd H2 l (.lst (xs ++ [v]))) | _ => False) I1 q2
  rw [hs] at hA ⊢
  refine Calls.callWith_builtin rfl (Calls.evalArgs_plain ?_)
  refine thn hA fun us s2 ⟨vs, H2, I2, r2, q3⟩ => ?_
  match vs, q3 with
  | [v2], ⟨xs, hx, hz, q⟩ => exact mt_append pins s2 σ H2 (.ref l) [v2] v us Q I2 r1 r2 ⟨l, xs, v2, rfl, rfl, hx, hz, q⟩
end
def SameX (l : Addr) (H H' : Hp) : Prop := ∀ b o, b ≠ l → H b = some o → H' b = some o
theorem SameX.refl (l : Addr) (H : Hp) : SameX l H H := fun _ _ _ h => h
theorem SameX.trans {l : Addr} {H H1 H2 : Hp} (a : SameX l H H1) (b : SameX l H1 H2) : SameX l H H2 := fun c o n h => b c o n (a c o n h)
theorem SameX.set {l : Addr} (H : Hp) (o : HO) : SameX l H (upd H l o) := fun b u n e => by rw [upd_ne n]; exact e
end L2
namespace L2
open PySem PySem.Spec PyProof.Rows PySem.W PySem.Calls
structure ExcK (K : PySem.W.Frag) (C : Addr) : Prop where
  cls : (clsIn K C).isSome = true
  ga : findIn K (.ref C) "__getattribute__" = some (some (.builtin "BaseException.__getattribute__"))
  gt : findIn K (.ref C) "__getattr__" = some none
  cl : findIn K (.ref C) "__class__" = some (some (.builtin "object.__class__"))
  mo : mroIn K C (.type "object") = some true
  mb : mroIn K C (.type "BaseException") = some true
section
variable {prog : Program} {w : World} {A : Around} {E : Value → Shared → Prop} {K : PySem.W.Frag} {h : Heap} {g : Array GenState} {d : Drawn} {t : Nat} {os : OsState} {a C : Addr} {ox : Obj}
theorem exc_get {R : Result → Shared → Prop} (X : K.In h) (k : ExcK K C) (hx : h.get? a = some ox) (hc : ox.cls = .ref C) (hq : R (.ok (.ret (.ref C))) ⟨h, g, d, t, os⟩) :
    codeAny (model prog w) A (.call (.builtin "getset_descriptor.__get__") ⟨[.builtin "object.__class__", .ref a, .ref C], []⟩) R ⟨h, g, d, t, os⟩ := by
  have L0 : Looks (model prog w) h (typeOf (.ref a)) (.ref C) := hc ▸ (Looks.ld hx).andThen .now
  have L1 := looks_mroIn (M := model prog w) X k.mo
  have hT5 : (⟨h, g, d, t, os⟩ : Shared).TypeIs (.builtin "object.__class__") "getset_descriptor" := F.typeOf_object_class
  have L2 : Looks (model prog w) h (isSubtype (.ref C) (.type (".".intercalate ("object.__class__".cutAt '.').dropLast))) true := by
    rw [show (".".intercalate ("object.__class__".cutAt '.').dropLast) = "object" by decide +kernel]
    exact L1
  refine codeAny_call_builtin F.slot_gs_get.plain F.entry_gs_get (F.slot_gs_get.check _ _ _ _ _ _ _ _ hT5 (F.args_gs_get _ _ _) ?_)
  repeat (any_goals (first | assumption | with_reducible refine L0.at ?_ | with_reducible refine L2.at ?_ | wp_step))
  refine ⟨Code.quiet_builtin _ (by decide +kernel), codeAny_builtin F.entry_object_class ?_⟩
  repeat (any_goals (first | assumption | with_reducible refine L0.at ?_ | wp_step))
theorem exc_entry {tk : Tok} {Q : Fin → Shared → Prop} (X : K.In h) (k : ExcK K C) (hx : h.get? a = some ox) (hc : ox.cls = .ref C) (hq : Q (.done (.ret (.ref C))) ⟨h, g, d, t, os⟩) :
    wpAny (model prog w) A (Builtin.«object.__getattribute__» ⟨[.ref a, .str "__class__" tk], []⟩) Q E ⟨h, g, d, t, os⟩ := by
  have L0 : Looks (model prog w) h (typeOf (.ref a)) (.ref C) := hc ▸ (Looks.ld hx).andThen .now
  have L3 := looks_findIn (M := model prog w) X k.cl
  have hT5 : (⟨h, g, d, t, os⟩ : Shared).TypeIs (.builtin "object.__class__") "getset_descriptor" := F.typeOf_object_class
  have f5 := F.typeOf_object_class
  have f6 := F.slot_gs_get.lookup
  have f7 := F.slot_gs_set.lookup
  repeat (any_goals (first | assumption | with_reducible refine L0.at ?_ | with_reducible refine L3.at ?_ | wp_step))
  refine exc_get X k hx hc ?_
  repeat (any_goals (first | assumption | wp_step))
theorem exc_check {M : Model} {nameV : Value} {Q : Unit → Shared → Prop} (X : K.In h) (k : ExcK K C) (hx : h.get? a = some ox) (hc : ox.cls = .ref C) (hq : Q () ⟨h, g, d, t, os⟩) :
    wpAny M A (checkBuiltinCall "BaseException.__getattribute__" ⟨[.ref a, nameV], []⟩) Q E ⟨h, g, d, t, os⟩ := by
  have e1 : builtinKind "BaseException.__getattribute__" = some .slot := by decide +kernel
  have e2 : splitId "BaseException.__getattribute__" = some ("BaseException", "__getattribute__") := by decide +kernel
  have e3 := F.args_bexc_ga (.ref a) nameV
  have L0 : Looks M h (typeOf (.ref a)) (.ref C) := hc ▸ (Looks.ld hx).andThen .now
  have L5 := looks_mroIn (M := M) X k.mb
  have LI : Looks M h (isInstance (.ref a) (.type "BaseException")) true := L0.andThen L5
  simp only [checkBuiltinCall, e1, e2]
  refine wpAny_bind (LI.at ?_)
  repeat (first | assumption | wp_step)
theorem exc_ca {Q : Option Value → Shared → Prop} {s : Shared} (X : K.In s.heap) (k : ExcK K C) (hx : s.heap.get? a = some ox) (hc : ox.cls = .ref C) (hq : Q (some (.ref C)) { s with toks := s.toks + 1 }) :
    wpAny (model prog w) A (getAttr? (.ref a) "__class__") Q E s := by
  obtain ⟨h, g, d, t, os⟩ := s
  have L0 : Looks (model prog w) h (typeOf (.ref a)) (.ref C) := hc ▸ (Looks.ld hx).andThen .now
  have L1 := looks_findIn (M := model prog w) X k.ga
  have L2 := looks_findIn (M := model prog w) X k.gt
  have f3 := F.excAttr_ValueError.ga.bind (.ref a)
  unfold getAttr? getAttrBy? getAttrBy
  refine wpAny_bind (wpAny_mkText (wpAny_bind (wpAny_attempt (wpAny_holding (wpAny_bind (L0.at (wpAny_bind (L1.at ?_))))))))
  dsimp only
  have n1 : ¬ (onTheHeap (Value.ref C) && Value.builtin "BaseException.__getattribute__" == Value.builtin "object.__getattribute__") = true := by
    show ¬ ((true && (Value.builtin "BaseException.__getattribute__" == Value.builtin "object.__getattribute__")) = true)
    decide +kernel
  rw [if_neg n1]
  unfold getAttrByItsOwn hookBefore
  refine wpAny_bind ?_
  rw [if_pos (show onTheHeap (Value.ref C) = true from rfl)]
  refine L2.at (wpAny_bind (wpAny_attempt (wpAny_holding ?_)))
  unfold callGetattribute
  rw [if_neg (by decide +kernel)]
  unfold boundAndCalled
  refine wpAny_bind (wpAny_of_eq f3 ?_)
  refine wpAny_call (codeAny_call_builtin F.excAttr_ValueError.ga.plain F.entry_bexc_ga (exc_check X k hx hc (exc_entry X k hx hc ?_)))
  repeat (any_goals (first | assumption | wp_step))
end
theorem kitx_exc {K : PySem.W.Frag} {a C : Addr} (k : ExcK K C) : KitX K (.ref a) (.ref C) (fun h => ∃ o vs, h.get? a = some o ∧ o.cls = .ref C ∧ o.data = .fields vs) where
  ty := fun M h _ ⟨o, _, h1, h2, _⟩ => h2 ▸ (Looks.ld h1).andThen .now
  it := fun M h X _ => by
    obtain ⟨cd, hcd⟩ := Option.isSome_iff_exists.mp k.cls
    unfold clsIn at hcd
    split at hcd
    · rename_i z1 z2 z3 z4 hlk
      intro A' Q' E' s' kk q
      unfold isType loadHead
      exact wpAny_bind (wpAny_loadPart (kk _ _ (X _ _ hlk)) (wpAny_pure q))
    · cases hcd
  ne := fun h tp dd its n sl X htp => by
    obtain ⟨cd, hcd⟩ := Option.isSome_iff_exists.mp k.cls
    refine Bool.eq_false_iff.mpr fun q => ?_
    have e : C = tp := Value.ref.inj (beq_iff_eq.mp q)
    subst e
    unfold clsIn at hcd
    split at hcd
    · rename_i z1 z2 z3 z4 hlk
      have z := (X _ _ hlk).symm.trans htp
      cases z
    · cases hcd
  ca := fun X ⟨o, _, h1, h2, _⟩ q => exc_ca X k h1 h2 q
section
variable {X : Cx}
theorem call_isiE {C : Addr} {c : Value} {vc : V} {b : Bool} (k : ExcK X.K C) (rc : RelV vc c) (e : kitOne X.K (.ref C) c = some b) :
    CallR X (.builtin "isinstance") (fun xs H Q => ∃ a, xs = [.ref a, vc] ∧ H a = some (ExcO a C) ∧ Q (.bl b) H) := by
  intro pins s σ H xs us Q I r h
  obtain ⟨a, rfl, ha, q⟩ := h
  obtain ⟨u, u', rfl, r1, r2⟩ := vals2 r
  cases (show u = Value.ref a from r1)
  obtain ⟨p, _⟩ := (show ObjOk X.prog X.w H s.heap a (ExcO a C) from I.hok a _ ha)
  have e2 : u' = c := by
    cases vc <;> simp only [RelV] at rc r2
    · rw [rc, r2]
    · rw [rc, r2]
    · obtain ⟨t1, z1⟩ := rc
      rw [z1] at e
      exact absurd e (by simp [kitOne, kitCls])
    · obtain ⟨t1, z1⟩ := rc
      rw [z1] at e
      exact absurd e (by simp [kitOne, kitCls])
    · obtain ⟨t1, z1⟩ := rc
      rw [z1] at e
      exact absurd e (by simp [kitOne, kitCls])
    · obtain ⟨t1, z1⟩ := rc
      rw [z1] at e
      exact absurd e (by simp [kitOne, kitCls])
    · rw [rc, r2]
    · rw [rc, r2]
  subst e2
  exact kia_one (kitx_exc k) I.kIn p e (fun z => nomatch z) fun tk => ⟨.bl b, H, I.tok tk, rfl, q⟩
theorem call_isiET {C : Addr} {cs : List Addr} {b : Bool} (k : ExcK X.K C) (e : kitAny X.K (.ref C) (cs.map Value.ref) = some b) :
    CallR X (.builtin "isinstance") (fun xs H Q => ∃ a p, xs = [.ref a, .ref p] ∧ H a = some (ExcO a C) ∧ H p = some (.tup (cs.map V.ref)) ∧ Q (.bl b) H) := by
  intro pins s σ H xs us Q I r h
  obtain ⟨a, p, rfl, ha, hp, q⟩ := h
  obtain ⟨u, u', rfl, r1, r2⟩ := vals2 r
  cases (show u = Value.ref a from r1)
  cases (show u' = Value.ref p from r2)
  obtain ⟨pe, _⟩ := (show ObjOk X.prog X.w H s.heap a (ExcO a C) from I.hok a _ ha)
  obtain ⟨zz, its, rv, ot, h1, h2, n, h3⟩ := (show ObjOk X.prog X.w H s.heap p (.tup (cs.map V.ref)) from I.hok p _ hp)
  have ei : its = cs.map Value.ref := by
    clear hp h3 h1 e zz
    induction cs generalizing its with
    | nil => cases rv; rfl
    | cons c r ih =>
      cases rv with
      | cons z rr =>
        rw [ih _ rr]
        cases (show _ = Value.ref c from z)
        rfl
  subst ei
  obtain ⟨oc, od, oda, osl⟩ := ot
  dsimp only at h2 h3
  subst h2 h3
  exact kia_tup (kitx_exc k) I.kIn pe h1 e (fun z => nomatch z) fun tk => ⟨.bl b, H, I.tok tk, rfl, q⟩
theorem pe_cls {x : Str} {C : Addr} {pos : Pos} (hg : Gl X x) (hn : PySem.W.nsIn X.K mainGlobals x = some (some (.ref C))) (hd : (x == ("__debug__" : Str)) = false := by decide) : PE X (.Name x pos) (tC (.ref C)) := by
  intro pins s σ H Q I h
  exact ld_glob I hg (PySem.W.mg_of I.ok.mod.kin I.ok.mod.glob hn) ⟨.ref C, H, I, rfl, h⟩ hd
end
end L2
namespace L2
open PySem PySem.Spec PyProof.Rows
def rvObj (t : Addr) (i : Int) : Obj := { cls := .type "reversed", data := .fields #[.ref t, rawInt i] }
def IsRv (h : Heap) (a t : Addr) (i : Int) : Prop := ∃ o, h.get? a = some o ∧ o.cls = .type "reversed" ∧ o.data = .fields #[.ref t, rawInt i]
theorem IsRv.typeIs {s : Shared} {a t : Addr} {i : Int} (x : IsRv s.heap a t i) : s.TypeIs (.ref a) "reversed" := let ⟨o, ho, hc, _⟩ := x; ⟨o, ho, hc⟩
theorem tup_norev : typeLookup (.type "tuple") "__reversed__" = pure none := by rw [typeLookup_type, builtinLookup_eq_fast]; kernel_rfl
theorem tup_getitem : typeLookup (.type "tuple") "__getitem__" = pure (some (.builtin "tuple.__getitem__")) := by rw [typeLookup_type, builtinLookup_eq_fast]; kernel_rfl
theorem tup_nodict : isSubtype (.type "tuple") (.type "dict") = pure false := by rw [isSubtype_type]; kernel_rfl
theorem rv_init : Slot "reversed" "__init__" "object.__init__" :=
  .of (owner := "object") (n := "__init__") (by rw [typeLookup_type, builtinLookup_eq_fast]; kernel_rfl) (by decide +kernel) (by decide +kernel) (by decide +kernel) (.inl (by decide +kernel)) (by rw [isSubtype_type]; kernel_rfl)
theorem rv_next : Slot "reversed" "__next__" "reversed.__next__" :=
  .of (owner := "reversed") (n := "__next__") (by rw [typeLookup_type, builtinLookup_eq_fast]; kernel_rfl) (by decide +kernel) (by decide +kernel) (by decide +kernel) (.inl (by decide +kernel)) (by rw [isSubtype_type]; kernel_rfl)
theorem rv_iter : Slot "reversed" "__iter__" "reversed.__iter__" :=
  .of (owner := "reversed") (n := "__iter__") (by rw [typeLookup_type, builtinLookup_eq_fast]; kernel_rfl) (by decide +kernel) (by decide +kernel) (by decide +kernel) (.inl (by decide +kernel)) (by rw [isSubtype_type]; kernel_rfl)
theorem rv_entry_next : entryFor table "reversed.__next__" = some Builtin.«reversed.__next__» := entryFor_of_tree (by kernel_rfl)
theorem rv_entry_iter : entryFor table "reversed.__iter__" = some Builtin.«dict_keyiterator.__iter__» :=
  entryFor_alias (id' := "dict_keyiterator.__iter__") (by kernel_rfl) (by first | rfl | decide +kernel) (by decide +kernel) (by kernel_rfl)
theorem rv_args_next (a : Value) : argsOk "reversed.__next__" ⟨[a], []⟩ := by unfold argsOk; kernel_rfl
theorem rv_args_iter (a : Value) : argsOk "reversed.__iter__" ⟨[a], []⟩ := by unfold argsOk; kernel_rfl
theorem rv_called : TypeCalled "reversed" "reversed.__new__" "object.__init__" :=
  ⟨by decide +kernel, PySem.F.create_reversed, ⟨_, _, PySem.F.mro_reversed⟩, PySem.F.made_reversed, PySem.F.plain_reversed_new, PySem.F.sub_reversed_self, rv_init⟩
theorem rv_new (t : Addr) (items : Array Value) (hz : (items.size : Int) < 2 ^ 63) : Meets (Builtin.«reversed.__new__» ⟨[.type "reversed", .ref t], []⟩)
    (fun _ R s => IsTup s.heap t items ∧ ∀ tk, R (.ok (.ret (.ref s.heap.objs.size))) { s with heap := s.heap.push (rvObj t ((items.size : Int) - 1)), toks := tk }) :=
  .of_wp fun prog w A R s h => by
    obtain ⟨ht, h⟩ := h
    have hT : s.TypeIs (.ref t) "tuple" := ht.typeIs
    unfold Builtin.«reversed.__new__»
    refine wpAny_bind (wpAny_of_eq (PySem.newClass_reversed _) ?_)
    try dsimp only
    refine wpAny_bind (wpAny_of_eq (a := ()) (by first | rfl | kernel_rfl) ?_)
    refine wpAny_bind (wpAny_of_eq (a := ()) (by first | rfl | kernel_rfl) ?_)
    try dsimp only
    refine wpAny_bind (wpAny_specialOf hT tup_norev ?_)
    try dsimp only
    refine wpAny_bind ?_
    k_delta "hasItemSlot"
    refine wpAny_bind (wpAny_isInstance (T := "tuple") (b := false) hT tup_nodict ?_)
    rw [if_neg Bool.false_ne_true]
    refine wpAny_bind (wpAny_specialOf hT tup_getitem ?_)
    dsimp only
    rw [if_pos (by decide +kernel)]
    refine wpAny_pure ?_
    rw [if_neg (by decide)]
    refine wpAny_bind (len_tuple ht hz ?_)
    refine wpAny_bind (wpAny_of_eq (a := some (items.size : Int)) rfl ?_)
    dsimp only
    refine wpAny_bind ?_
    unfold Builtin.SmallTypes.newRecord
    refine wpAny_newObj_type (wpAny_pure ⟨_, rfl, h _⟩)
section
variable {prog : Program} {w : World} {A : Around} {E : Value → Shared → Prop} {s : Shared}
theorem call_rv {t : Addr} {items : Array Value} {Q : Value → Shared → Prop} (ht : IsTup s.heap t items) (hz : (items.size : Int) < 2 ^ 63)
    (h : ∀ tk, Q (.ref s.heap.objs.size) { s with heap := s.heap.push (rvObj t ((items.size : Int) - 1)), toks := tk }) : wpAny (model prog w) A (call (.type "reversed") [.ref t]) Q E s :=
  callType_new rv_called (by decide) (PySem.F.typeCall_reversed_1 _) (PySem.F.newCall_reversed_1 _) (fun obj => F.args_object_init_2 obj _) PySem.F.entry_reversed_new (rv_new t items hz)
    ⟨ht, fun tk => ⟨⟨_, Heap.get?_push_size _ rfl, rfl⟩, h tk⟩⟩
theorem rv_item {it t : Addr} {i : Nat} {items : Array Value} {x : Value} {Q : Option Value → Shared → Prop} (hit : IsRv s.heap it t (i : Int)) (ht : IsTup s.heap t items) (hx : items[i]? = some x) (hz : (items.size : Int) < 2 ^ 63)
    (hQ : ∀ h' tk, IsRv h' it t ((i : Int) - 1) → Heap.SameBut it s.heap h' → Q (some x) { s with heap := h', toks := tk }) : wpAny (model prog w) A (pyNext (.ref it)) Q E s := by
  obtain ⟨o, ho, hc, hd⟩ := id hit
  have hT : s.TypeIs (.ref t) "tuple" := ht.typeIs
  have hi : i < items.size := (Array.getElem?_eq_some_iff.mp hx).1
  unfold pyNext
  refine wpAny_bind (wpAny_attempt (wpAny_callSpecial?_slot (name := Str.ofString "__next__") hit.typeIs rv_next (wpAny_call_entry rv_next hit.typeIs rv_entry_next ?_ (rv_args_next _))))
  unfold Builtin.«reversed.__next__»
  refine wpAny_bind (wpAny_of_eq (a := (Value.ref it, [])) rfl ?_)
  try dsimp only
  refine wpAny_bind (wpAny_field ho hd (x := .ref t) rfl ?_)
  refine wpAny_bind (wpAny_field ho hd (x := rawInt (i : Int)) rfl ?_)
  show wpAny _ _ (if (i : Int) < 0 then _ else _) _ _ s
  rw [if_neg (by omega)]
  refine wpAny_bind (wpAny_specialOf hT tup_getitem ?_)
  rw [if_neg (by decide)]
  refine wpAny_bind (wpAny_mkInt ?_)
  refine wpAny_bind (wpAny_attempt (getItem_tuple (k := (i : Int)) (j := i) ht (by omega) (by omega) (by simp [seqIndex?]; omega) hx ?_))
  dsimp only
  refine wpAny_bind (wpAny_field ho hd (x := rawInt (i : Int)) rfl ?_)
  show wpAny _ _ (setField (.ref it) 1 (rawInt ((i : Int) - 1)) >>= _) _ _ _
  refine wpAny_bind (wpAny_setField ho hd (by simp) ?_)
  refine wpAny_pure ⟨x, rfl, wpAny_pure (hQ _ _ ?_ (Heap.SameBut.update ..))⟩
  exact ⟨_, Heap.get?_update_self _ ho (Obj.isFreed_of_fields (Obj.data_mapFields hd _)), (Obj.cls_mapFields ..).trans hc, by rw [Obj.data_mapFields hd]; simp⟩
theorem rv_end {it t : Addr} {Q : Option Value → Shared → Prop} (hh : A.handled = none) (hit : IsRv s.heap it t (-1)) (hQ : ∀ h' tk, Heap.ExtBut it s.heap h' → Q none { s with heap := h', toks := tk }) : wpAny (model prog w) A (pyNext (.ref it)) Q E s := by
  obtain ⟨o, ho, hc, hd⟩ := id hit
  unfold pyNext
  refine wpAny_bind (wpAny_attempt (wpAny_callSpecial?_slot (name := Str.ofString "__next__") hit.typeIs rv_next (wpAny_call_entry rv_next hit.typeIs rv_entry_next ?_ (rv_args_next _))))
  unfold Builtin.«reversed.__next__»
  refine wpAny_bind (wpAny_of_eq (a := (Value.ref it, [])) rfl ?_)
  try dsimp only
  refine wpAny_bind (wpAny_field ho hd (x := .ref t) rfl ?_)
  refine wpAny_bind (wpAny_field ho hd (x := rawInt (-1)) rfl ?_)
  show wpAny _ _ (if (-1 : Int) < 0 then _ else _) _ _ s
  rw [if_pos (by decide)]
  refine wpAny_bind (wpAny_rule ?_)
  refine wpAny_bind ?_
  k_delta "reversedEnd"
  refine wpAny_bind (wpAny_setField ho hd (by simp) ?_)
  refine wpAny_setField (Heap.get?_update_self _ ho (Obj.isFreed_of_fields (Obj.data_mapFields hd _))) (Obj.data_mapFields hd _) (by simp) ?_
  refine wpAny_bind ?_
  have other : ∀ b u, b ≠ it → s.heap.get? b = some u → ((s.heap.update it (Obj.mapFields fun x => x.setIfInBounds 1 (rawInt (-1)))).update it (Obj.mapFields fun x => x.setIfInBounds 0 Value.none)).get? b = some u := fun b u nb e => by
    rw [Heap.get?_update_other _ _ (Ne.symm nb), Heap.get?_update_other _ _ (Ne.symm nb)]; exact e
  generalize ((s.heap.update it (Obj.mapFields fun x => x.setIfInBounds 1 (rawInt (-1)))).update it (Obj.mapFields fun x => x.setIfInBounds 0 Value.none)) = hU at *
  show wpAny _ _ (newExc (.type "StopIteration") [] >>= _) _ _ _
  refine wpAny_bind ?_
  simp only [newExc, newTuple]
  refine wpAny_bind (wpAny_newObj_type ?_ (by size_fits))
  refine wpAny_bind (m := firstArgMember _ _) (wpAny_of_eq (a := Value.none) (by first | rfl | (simp only [firstArgMember]; rfl)) ?_)
  refine wpAny_newObj_type ?_ (by size_fits)
  simp only [raiseNew]
  refine wpAny_bind (wpAny_handled ?_)
  rw [show A.in1.handled = none from hh]
  refine wpAny_bind (wpAny_pure (wpAny_throw ?_))
  refine wpAny_bind (wpAny_isInstance (T := "StopIteration") (b := true) ⟨_, Heap.get?_push_size _ rfl, rfl⟩ isSubtype_stop ?_)
  exact wpAny_pure (hQ _ _ fun b u nb e => Heap.get?_push_of_some _ (Heap.get?_push_of_some _ (other b u nb e)))
theorem rv_self {it t : Addr} {i : Int} {Q : Value → Shared → Prop} (hit : IsRv s.heap it t i) (h : Q (.ref it) s) : wpAny (model prog w) A (pyIter (.ref it)) Q E s := by
  refine wpAny_pyIter_slot hit.typeIs rv_iter (wpAny_call_entry rv_iter hit.typeIs rv_entry_iter ?_ (rv_args_iter _))
  show wpAny _ _ (ret (.ref it)) _ _ s
  exact wpAny_pure ⟨_, rfl, "reversed", _, hit.typeIs, rv_next.lookup, h⟩
end
def Itrv (K : PySem.W.Frag) (a : Addr) (n : Nat) : It := ⟨fun i H => ∃ xs, SqT K H a xs ∧ xs.length = n ∧ i < n, fun i H x H' => H' = H ∧ ∀ xs, SqT K H a xs → xs[n - 1 - i]? = some x, fun i H => ∃ xs, SqT K H a xs ∧ xs.length = n ∧ i = n⟩
theorem line63' : (sizeLine : Int) < 2 ^ 63 := by rw [sizeLine_eq]; decide
theorem turn_rv {P : Program} {w : World} {K : PySem.W.Frag} {tg : Expr} (a it : Addr) (n : Nat) : Turn P w K tg (Itrv K a n) [it] it (fun i h => IsRv h it a ((n : Int) - 1 - (i : Int))) where
  mem := by simp
  obj := fun i h x b hb => by
    have e : b = it := by simpa using hb
    subst e
    obtain ⟨o, ho, _, hd⟩ := x
    exact ⟨o, ho, fun v q => by rw [hd] at q; cases q⟩
  keep := fun i h h' x k => let ⟨o, ho, r⟩ := x; ⟨o, k it (by simp) o ho, r⟩
  item := by
    intro X hP hw hK hc i pins s σ H E I hf st hg
    subst hP hw hK
    obtain ⟨xs, hq, hn, hi⟩ := hg
    obtain ⟨its, rv, p, hz⟩ := I.tuple hq
    have hx : xs[n - 1 - i]? = some (xs[n - 1 - i]'(by omega)) := List.getElem?_eq_getElem (by omega)
    obtain ⟨u, hu, ru⟩ := rv.get hx
    obtain ⟨f0, f1, f2, f3, f4, f5⟩ := hf it (by simp)
    have e : (n : Int) - 1 - (i : Int) = ((n - 1 - i : Nat) : Int) := by omega
    rw [e] at st
    have hl := rv.length
    have z63 := line63'
    refine rv_item st p (x := u) (by simpa using hu) (by simp; omega) fun h' tk st' sb => ?_
    have I1 : Inv X pins σ H { s with heap := h', toks := tk } := I.turned (t' := tk) (fun b o hb e => (sb.2 b hb).trans e) f0 f1 f3 f4 f5
    obtain ⟨o, e, c, d⟩ := id st'
    have e2 : ((n - 1 - i : Nat) : Int) - 1 = (n : Int) - 1 - ((i + 1 : Nat) : Int) := by omega
    rw [e2] at st'
    exact ⟨u, rfl, go_of (s := { s with heap := h', toks := tk }) e c d (by decide) ⟨_, H, I1, ru, ⟨rfl, fun ys hy => by rw [I.tuple_inj hy hq]; exact hx⟩, st', fun b hb => (hf b hb).1⟩⟩
  done := by
    intro X hP hw hK hc i pins s σ H E I hf st hg
    subst hP hw hK
    obtain ⟨xs, hq, hn, hi⟩ := hg
    obtain ⟨f0, f1, f2, f3, f4, f5⟩ := hf it (by simp)
    have e : (n : Int) - 1 - (i : Int) = -1 := by omega
    rw [e] at st
    exact rv_end (I.ok.hd hc) st fun h' tk eb => ⟨rfl, I.turned (t' := tk) (fun b o hb e => eb b o hb e) f0 f1 f3 f4 f5⟩
  self := fun _ _ _ _ _ st h => rv_self st h
section
variable {X : Cx} {tg : Expr}
def iRevT (K : PySem.W.Frag) (te : TE) : TI := fun σ H R => te σ H fun x H1 => ∃ a xs, x = .ref a ∧ SqT K H1 a xs ∧ R (Itrv K a xs.length) H1
theorem pi_revT {e : Expr} {te : TE} {p pos : Pos} (hg : Gl X "reversed") (hm : X.mg "reversed" = none) (he : PE X e te) (hs : starEach [e] X.env = [(false, eval e X.env)] := by rfl) :
    PI X tg (.Call (.Name "reversed" p) [e] [] pos) (iRevT X.K te) := by
  intro pins s σ H R I h
  have hA := (pa_cons he (pa_nil (X := X)) hs) pos pins s σ H (fun vs H1 => match vs with | [x] => ∃ a xs, x = .ref a ∧ SqT X.K H1 a xs ∧ R (Itrv X.K a xs.length) H1 | _ => False) I h
  refine Call_ (ld_blt I hg hm boot_reversed (PyProof.Rows.callWith_type1 (thn hA fun us s1 ⟨vs, H1, I1, r1, q1⟩ => ?_) hs rfl))
  match vs, q1 with
  | [x], ⟨a, xs, e, hq, q⟩ =>
    subst e
    obtain ⟨u, rfl, ru⟩ := vals1 r1
    cases (show u = Value.ref a from ru)
    obtain ⟨its, rv, p, hz⟩ := I1.tuple hq
    have hl := rv.length
    have z63 := line63'
    refine call_rv p (by simp; omega) fun tk => ?_
    have I2 : Inv X pins σ H1 { s1 with heap := s1.heap.push (rvObj a ((its.toArray.size : Int) - 1)), toks := tk } := I1.kept (t' := tk) fun b o e => Heap.get?_push_of_some _ e
    have ir : IsRv (s1.heap.push (rvObj a ((its.toArray.size : Int) - 1))) s1.heap.objs.size a ((xs.length : Int) - 1 - ((0 : Nat) : Int)) := by
      refine ⟨_, Heap.get?_push_size _ rfl, rfl, ?_⟩
      show Data.fields #[.ref a, rawInt ((its.toArray.size : Int) - 1)] = _
      have e : ((its.toArray.size : Nat) : Int) - 1 = (xs.length : Int) - 1 - ((0 : Nat) : Int) := by simp; omega
      rw [e]
    refine rv_self ir ⟨s1.heap.objs.size, [s1.heap.objs.size], _, _, H1, rfl, I2, turn_rv a _ xs.length, ir, fun b hb => ?_, q⟩
    have e : b = s1.heap.objs.size := by simpa using hb
    subst e
    exact I1.fpOk (Nat.le_refl _) (I1.hok.fresh (Nat.le_refl _))
end
def LoopV (K : PySem.W.Frag) (g : TG) (tb : TS) (D : Ends) (σ : St) (x : V) (H1 : Hp) : Prop := ∃ a xs, x = .ref a ∧ SqT K H1 a xs ∧ ∃ W : Nat → Nat → St → Hp → Prop, (∃ m, W 0 m σ H1) ∧ ∀ i m σ H, W i m σ H →
  ((Itrv K a xs.length).stop i H ∧ D.nx σ H) ∨ ((Itrv K a xs.length).go i H ∧ ∃ N : St → Hp → Prop, (∀ σ' H', N σ' H' → ∃ m', m' < m ∧ W (i + 1) m' σ' H') ∧ ∀ x H', (Itrv K a xs.length).yld i H x H' → g x σ H' fun σ2 H2 => tb { D with nx := N, ct := N, bk := D.nx } σ2 H2)
theorem for_eqV {K : PySem.W.Frag} {te : TE} {g : TG} {tb : TS} {D : Ends} {σ : St} {H : Hp} : tFor (iRevT K te) g tb D σ H = te σ H fun x H1 => LoopV K g tb D σ x H1 := rfl
theorem LoopV.mk {K : PySem.W.Frag} {a : Addr} {xs : List V} {g : TG} {tb : TS} {D : Ends} {σ : St} {H : Hp} (hS : SqT K H a xs) (Pv : Nat → St → Hp → Prop) (h0 : Pv 0 σ H) (hl : ∀ i σ H, i ≤ xs.length → Pv i σ H → SqT K H a xs)
    (hs : ∀ i x σ H, i < xs.length → xs[xs.length - 1 - i]? = some x → Pv i σ H → g x σ H fun σ2 H2 => tb { D with nx := Pv (i + 1), ct := Pv (i + 1), bk := D.nx } σ2 H2) (hd : ∀ σ H, Pv xs.length σ H → D.nx σ H) : LoopV K g tb D σ (.ref a) H := by
  refine ⟨a, xs, rfl, hS, fun i m σ H => m = xs.length - i ∧ i ≤ xs.length ∧ Pv i σ H, ⟨xs.length, by simp, Nat.zero_le _, h0⟩, ?_⟩
  rintro i m σ H ⟨rfl, hi, p⟩
  have q := hl i σ H hi p
  by_cases hlt : i < xs.length
  · refine .inr ⟨⟨xs, q, rfl, hlt⟩, Pv (i + 1), fun σ' H' p' => ⟨xs.length - (i + 1), by omega, rfl, hlt, p'⟩, fun x H' y => ?_⟩
    obtain ⟨e, y⟩ := y
    subst e
    exact hs i x σ _ hlt (y xs q) p
  · have e : i = xs.length := by omega
    subst e
    exact .inl ⟨⟨xs, q, rfl, rfl⟩, hd σ H p⟩
end L2
namespace L2
open PySem PySem.Spec PyProof.Rows
theorem lri_nolen : typeLookup (.type "list_reverseiterator") "__len__" = pure none := by rw [typeLookup_type, builtinLookup_eq_fast]; kernel_rfl
theorem lri_hint : typeLookup (.type "list_reverseiterator") "__length_hint__" = pure (some (.builtin "list_reverseiterator.__length_hint__")) := by rw [typeLookup_type, builtinLookup_eq_fast]; kernel_rfl
section
variable {pg : Program} {wd : World} {B : Around} {X0 : Value → Shared → Prop} {s0 : Shared} {J : Addr} {fs ws : List Addr} {Gg : Array GenState → Array GenState → Prop} {m : Nat} {Pr : Nat → Value → Prop} {Sx : Nat → Shared → Prop}
theorem collect_lri {R : List Value → Shared → Prop} (wk : WalksS pg wd B.in1 J fs ws Gg m Pr Sx) (ty : ∀ j z, Sx j z → z.TypeIs (.ref J) "list_reverseiterator") (z0 : Sx 0 s0) (lt : ∀ b ∈ fs, b < s0.heap.objs.size) (mJ : J ∈ fs) (sm : m ≤ sizeLine)
    (fin : ∀ z' ac, Moved ws Gg s0 z' → ItemsOf Pr ac m → R ac.toList z') : wpAny (model pg wd) B (collect (.ref J)) R X0 s0 := by
  have out : s0.heap.objs.size ∉ fs := fun q => absurd (lt _ q) (Nat.lt_irrefl _)
  have neJ : s0.heap.objs.size ≠ J := by rintro rfl; exact out mJ
  let nu : Obj := { cls := .type "list", data := .seq ([] : List Value).toArray }
  unfold collect
  refine wpAny_bind (wpAny_runValue (codeAny_builtin F.entry_proto_collect ?_))
  rw [Around.under_plainId F.plain_proto_collect _]
  show wpAny _ B.in1 (newList [] >>= fun q => again (.builtin "list.__iadd__" ⟨[q, .ref J], []⟩)) _ _ s0
  refine wpAny_bind (wpAny_newObj_type ?_)
  refine wpAny_pure ⟨plainId_quiet F.plain_list_iadd _, codeAny_builtin F.entry_list_iadd ?_⟩
  rw [Around.under_plainId F.plain_list_iadd _]
  have z1 := wk.frame 0 s0 (s0.heap.push nu) s0.toks z0 (Nat.le_refl _) fun b _ o e => Heap.get?_push_of_some _ e
  have at1 : (s0.heap.push nu).get? s0.heap.objs.size = some nu := Heap.get?_push_size _ rfl
  have dif : Builtin.List.listSameRef (.ref s0.heap.objs.size) (.ref J) = false := by simp [Builtin.List.listSameRef, neJ]
  show wpAny _ B.in1 (Builtin.List.listExtendWith (.ref s0.heap.objs.size) (.ref J) (.ref s0.heap.objs.size)) _ _ _
  unfold Builtin.List.listExtendWith
  refine wpAny_bind (wpAny_typeOf (ty 0 _ z1) ?_)
  rw [if_neg (by rw [dif]; decide)]
  refine wpAny_bind (wk.self 0 _ _ _ z1 ?_)
  refine wpAny_bind (wpAny_holding ?_)
  unfold Builtin.List.listLengthHint
  refine wpAny_bind (wpAny_specialOf (ty 0 _ z1) lri_nolen ?_)
  show wpAny _ B.in1 (specialOf (Value.ref J) (Str.ofString "__length_hint__") >>= _) _ _ _
  refine wpAny_bind (wpAny_specialOf (ty 0 _ z1) lri_hint ?_)
  (generalize hid : ("list_reverseiterator.__length_hint__" : String) = id0; wp_delta; rw [show splitId id0 = some ("list_reverseiterator", "__length_hint__") from by subst hid; decide +kernel]; subst hid)
  refine wpAny_bind (wpAny_isInstance (b := true) (ty 0 _ z1) (by rw [isSubtype_type]; kernel_rfl) ?_)
  refine wpAny_pure ?_
  rw [if_neg (by decide)]
  refine wpAny_pure ⟨plainId_quiet F.plain_extend_loop _, codeAny_extend_loopS wk sm _ out _ m 0 _ _ _ rfl (Nat.zero_le _) z1 at1 (ItemsOf.nil Pr) fun z' ac cc mv at2 its => ?_⟩
  show wpAny _ B (load s0.heap.objs.size >>= _) _ _ z'
  exact wpAny_bind (wpAny_load at2 (wpAny_pure (fin z' ac (Moved.drop_new (o := nu) (tk := s0.toks) mv (Nat.le_refl _)) its)))
theorem new_tuple_lri {R : Value → Shared → Prop} (wk : WalksS pg wd B.in1.in1 J fs ws Gg m Pr Sx) (ty : ∀ j z, Sx j z → z.TypeIs (.ref J) "list_reverseiterator") (z0 : Sx 0 s0) (lt : ∀ b ∈ fs, b < s0.heap.objs.size) (mJ : J ∈ fs) (sm : m ≤ sizeLine)
    (fin : ∀ z' ac, Moved ws Gg s0 z' → ItemsOf Pr ac m → R (.ref z'.heap.objs.size) { z' with heap := z'.heap.push { cls := .type "tuple", data := .seq ac } }) :
    codeAny (model pg wd) B (.call (.builtin "tuple.__new__") ⟨[.type "tuple", .ref J], []⟩) (wants R X0) s0 := by
  refine codeAny_of_tree ?_
  show wpAny _ B.in1 (do checkBuiltinCall "tuple.__new__" ⟨[.type "tuple", .ref J], []⟩; again (.builtin "tuple.__new__" ⟨[.type "tuple", .ref J], []⟩)) _ _ s0
  refine wpAny_bind (wpAny_of_eq (F.newCall_tuple_1 _) (wpAny_pure ⟨plainId_quiet F.plain_tuple_new _, codeAny_builtin F.entry_tuple_new ?_⟩))
  rw [Around.under_plainId F.plain_tuple_new _]
  have q1 := sub_tuple_self
  have q2 := init_tuple_lookup
  have q3 := madeHere_tuple
  have q4 := ty 0 s0 z0
  wp_walk using wpAny_typeOf q4, collect_lri (sm := sm) wk ty z0 lt mJ
  intro z' ac mv its
  show wpAny _ _ (Builtin.Tuple.tupleExact ac.toList.toArray >>= fun q => ret q) _ _ _
  have e : ac.toList.toArray = ac := by simp
  rw [e]
  unfold Builtin.Tuple.tupleExact
  exact wpAny_bind (wpAny_newObj_type (wpAny_pure (fin z' ac mv its)) (by show ac.size ≤ sizeLine; rw [its.1]; exact sm))
theorem call_tuple_lri {R : Value → Shared → Prop} (wk : WalksS pg wd B.in1.in1.in1 J fs ws Gg m Pr Sx) (ty : ∀ j z, Sx j z → z.TypeIs (.ref J) "list_reverseiterator") (z0 : Sx 0 s0) (lt : ∀ b ∈ fs, b < s0.heap.objs.size) (mJ : J ∈ fs) (sm : m ≤ sizeLine)
    (fin : ∀ z' ac, Moved ws Gg s0 z' → ItemsOf Pr ac m → R (.ref z'.heap.objs.size) { z' with heap := z'.heap.push { cls := .type "tuple", data := .seq ac } }) :
    wpAny (model pg wd) B (call (.type "tuple") [.ref J]) R X0 s0 :=
  callType_codes (Q₁ := fun ob z => z.TypeIs ob "tuple" ∧ R ob z) F.called_tuple (F.typeCall_tuple_1 _) F.entry_object_init
    (new_tuple_lri (sm := sm) wk ty z0 lt mJ fun z' ac mv its => ⟨⟨_, Heap.get?_push_size _ rfl, rfl⟩, fin z' ac mv its⟩)
    fun ob z q => ⟨q.1, F.args_object_init_2 ob _, object_init_meets F.called_tuple.init.lookup F.called_tuple.made (by decide) pg wd B.in1 _ z ⟨q.1, rfl, q.2⟩⟩
end
section
variable {X : Cx}
def tTupRev (K : PySem.W.Frag) (te : TE) : TE := fun σ H Q => te σ H fun x H1 => ∃ a xs, x = .ref a ∧ SqL K H1 a xs ∧ ∀ p, H1 p = none → Q (.ref p) (upd H1 p (.tup xs.reverse))
theorem pe_tupRev {e : Expr} {te : TE} {p1 p2 pos pos' : Pos} (hc : X.calm = true) (ht : Gl X "tuple") (hr : Gl X "reversed") (mt : X.mg "tuple" = none) (mr : X.mg "reversed" = none) (he : PE X e te) (hs : starEach [e] X.env = [(false, eval e X.env)] := by rfl) :
    PE X (.Call (.Name "tuple" p1) [.Call (.Name "reversed" p2) [e] [] pos'] [] pos) (tTupRev X.K te) := by
  intro pins s σ H Q I h
  refine Call_ (ld_blt I ht mt boot_tuple (PyProof.Rows.callWith_type1 ?_ rfl rfl))
  refine Calls.spliced_cons ?_
  have hA := (pa_cons he (pa_nil (X := X)) hs) pos' pins s σ H (fun vs H1 => match vs with | [x] => ∃ a xs, x = .ref a ∧ SqL X.K H1 a xs ∧ ∀ p, H1 p = none → Q (.ref p) (upd H1 p (.tup xs.reverse)) | _ => False) I h
  refine Call_ (ld_blt I hr mr boot_reversed (PyProof.Rows.callWith_type1 (thn hA fun us s1 ⟨vs, H1, I1, r1, q1⟩ => ?_) hs rfl))
  match vs, q1 with
  | [x], ⟨a, xs, e, hq, q⟩ =>
    subst e
    obtain ⟨u, rfl, ru⟩ := vals1 r1
    cases (show u = Value.ref a from ru)
    obtain ⟨its, rv, pl, hz⟩ := I1.list hq
    have hl := rv.length
    refine call_reversed_list pl.isList ?_
    refine Calls.spliced_nil ?_
    have I2 : Inv X pins σ H1 { s1 with heap := s1.heap.push (revObj a ((its.toArray.size : Int) - 1)) } := I1.kept (t' := s1.toks) fun b o e => Heap.get?_push_of_some _ e
    have al : a < s1.heap.objs.size := by obtain ⟨o, ho, _⟩ := pl.isList; exact Heap.lt_size ho
    have hne : a ≠ s1.heap.objs.size := Nat.ne_of_lt al
    have ir : (s1.heap.push (revObj a ((its.toArray.size : Int) - 1))).IsRevIter s1.heap.objs.size a ((its.toArray.size : Int) - 1 - ((0 : Nat) : Int)) := by
      refine ⟨_, Heap.get?_push_size _ rfl, rfl, ?_⟩
      have e : (its.toArray.size : Int) - 1 - ((0 : Nat) : Int) = (its.toArray.size : Int) - 1 := by omega
      rw [e]; rfl
    have sz : (s1.heap.push (revObj a ((its.toArray.size : Int) - 1))).objs.size = s1.heap.objs.size + 1 := by simp [Heap.push]
    have ff := I1.fpOk (Nat.le_refl s1.heap.objs.size) (I1.hok.fresh (Nat.le_refl _))
    refine call_tuple_lri (Walks.listRev (A := X.A.in1.in1.in1) (I.ok.hd hc) s1.heap.objs.size a hne its.toArray).toS (fun j z q => let ⟨o, ho, hk, _⟩ := q.2.1; ⟨o, ho, hk⟩)
      ⟨Nat.zero_le _, ir, pl.isList.at fun o e => Heap.get?_push_of_some _ e⟩ (fun b hb => ?_) (List.mem_cons_self ..) (by simp only [List.size_toArray]; omega) fun z' ac mv io => ?_
    · show b < (s1.heap.push (revObj a ((its.toArray.size : Int) - 1))).objs.size
      rw [sz]
      simp only [List.mem_cons, List.not_mem_nil, or_false] at hb
      rcases hb with rfl | rfl
      · exact Nat.lt_succ_self _
      · exact Nat.lt_succ_of_lt al
    have I3 : Inv X pins σ H1 z' := by
      obtain ⟨zh, zg, zd, zt, zo⟩ := z'
      have e1 : zg = s1.gens := mv.gens
      have e2 : zd = s1.drawn := mv.drawn
      have e3 : zo = s1.os := mv.os
      subst e1 e2 e3
      obtain ⟨f0, f1, f2, f3, f4, f5⟩ := ff
      exact I1.turned (t' := zt) (fun b o hb e => mv.heap b o (by simpa using hb) (Heap.get?_push_of_some _ e)) f0 f1 f3 f4 f5
    have er : ac = its.reverse.toArray := by
      have sz2 : ac.size = its.length := by simpa using io.1
      apply Array.ext
      · simp [sz2]
      · intro j h1 h2
        have q := io.2 j _ (Array.getElem?_eq_getElem h1)
        simp only [List.size_toArray, List.getElem?_toArray] at q
        have q2 : its.reverse[j]? = some ac[j] := by rw [List.getElem?_reverse (by omega)]; exact q
        rw [List.getElem_toArray]
        exact (Option.some.inj ((List.getElem?_eq_getElem (by simpa using h2)).symm.trans q2)).symm
    subst er
    have I4 : Inv X pins σ (upd H1 z'.heap.objs.size (.tup xs.reverse)) { z' with heap := z'.heap.push { cls := .type "tuple", data := .seq its.reverse.toArray } } :=
      I3.laid (t' := z'.toks) (fun b o e => Heap.get?_push_of_some _ e) (Nat.le_refl _) (show ObjOk X.prog X.w _ _ _ (.tup xs.reverse) from ⟨by simpa using hz, its.reverse, rv.reverse, IsTup.new _ _⟩)
    exact ⟨.ref z'.heap.objs.size, _, I4, rfl, q _ (I3.hok.fresh (Nat.le_refl _))⟩
end
end L2
namespace L2
open PySem PySem.Spec PyProof.Rows
section
variable {X : Cx}
def rCatA (K : PySem.W.Frag) : R2 := fun x y H Q => ∃ a b xs ys, x = .ref a ∧ y = .ref b ∧ SqT K H a xs ∧ SqT K H b ys ∧ xs.length + ys.length ≤ sizeLine ∧
  (xs = [] → Q (.ref b) H) ∧ (xs ≠ [] → ys = [] → Q (.ref a) H) ∧ (xs ≠ [] → ys ≠ [] → ∀ p, H p = none → Q (.ref p) (upd H p (.tup (xs ++ ys))))
theorem op_catA : OpR X (binaryOp .Add) (rCatA X.K) := by
  intro pins s σ H x y v u Q I rx ry h
  obtain ⟨a, b, xs, ys, rfl, rfl, ha, hb, hz, q0, q1, q2⟩ := h
  by_cases hx : xs = []
  · cases rx
    cases ry
    obtain ⟨its, r1, p1, _⟩ := I.tuple ha
    obtain ⟨its2, r2, p2, _⟩ := I.tuple hb
    have e1 : its = [] := r1.nil_iff.mpr hx
    obtain ⟨⟨c1, d1, z1, l1⟩, g1, hc1, n1, hd1⟩ := id p1
    obtain ⟨⟨c2, d2, z2, l2⟩, g2, hc2, n2, hd2⟩ := id p2
    simp only at hc1 hd1 hc2 hd2
    subst hc1 hd1 hc2 hd2
    exact concat_meets ⟨_, g1, rfl⟩ ⟨_, g2, rfl⟩ noFill_tuple_add seq_tuple_add PySem.F.slot_tuple_add PySem.F.entry_tuple_add (PySem.F.args_tuple_add_2 _ _)
      (tuple_addW0 a b its.toArray its2.toArray n1 n2 d1 d2 l1 l2 (by simp [e1])) ⟨g1, g2, .ref b, H, I, rfl, q0 hx⟩
  · exact op_catT pins s σ H _ _ v u Q I rx ry ⟨a, b, xs, ys, rfl, rfl, ha, hb, hx, hz, q1 hx, q2 hx⟩
def eqVs : List V → List V → Bool
  | [], [] => true
  | x :: xs, y :: ys => eqV x y && eqVs xs ys
  | _, _ => false
theorem eqVs_len : ∀ {xs ys : List V}, xs.length ≠ ys.length → eqVs xs ys = false
  | [], [], h => absurd rfl h
  | x :: xs, y :: ys, h => by
    have e : xs.length ≠ ys.length := fun z => h (by simp [z])
    simp [eqVs, eqVs_len e]
  | [], _ :: _, _ => rfl
  | _ :: _, [], _ => rfl
def eqAtI (xs ys : List V) (j : Nat) : Bool := match xs[j]?, ys[j]? with | some x, some y => eqV x y | _, _ => false
theorem eqVs_all : ∀ {xs ys : List V}, xs.length = ys.length → (List.range xs.length).all (eqAtI xs ys) = eqVs xs ys
  | [], [], _ => rfl
  | x :: xs, y :: ys, h => by
    have e : xs.length = ys.length := by simpa using h
    rw [List.length_cons, List.range_succ_eq_map, List.all_cons, List.all_map]
    have z : (eqAtI (x :: xs) (y :: ys) ∘ Nat.succ) = eqAtI xs ys := by funext j; simp [eqAtI]
    rw [z, eqVs_all e]
    rfl
  | [], _ :: _, h => by cases h
  | _ :: _, [], h => by cases h
theorem eqAtI_ok {A : Around} {s : Shared} {xs ys : List V} {us ws : List Value} (r1 : Vals xs us) (r2 : Vals ys ws) (f1 : xs.all flatV = true) (f2 : ys.all flatV = true) (j : Nat) (h1 : j < us.toArray.size) (h2 : j < ws.toArray.size) :
    SeqAt.EqAt A s us.toArray[j] ws.toArray[j] (eqAtI xs ys j) := by
  have l1 := r1.length
  have l2 := r2.length
  have k1 : j < xs.length := by rw [l1]; simpa using h1
  have k2 : j < ys.length := by rw [l2]; simpa using h2
  obtain ⟨u, hu, ru⟩ := r1.get (List.getElem?_eq_getElem k1)
  obtain ⟨v, hv, rv⟩ := r2.get (List.getElem?_eq_getElem k2)
  have e1 : us.toArray[j] = u := by
    have z : us[j]? = some (us[j]'(by simpa using h1)) := List.getElem?_eq_getElem _
    rw [z] at hu
    simpa using hu
  have e2 : ws.toArray[j] = v := by
    have z : ws[j]? = some (ws[j]'(by simpa using h2)) := List.getElem?_eq_getElem _
    rw [z] at hv
    simpa using hv
  rw [e1, e2]
  have e3 : eqAtI xs ys j = eqV xs[j] ys[j] := by simp [eqAtI, k1, k2]
  rw [e3]
  exact eqAt_V ru rv (List.all_eq_true.mp f1 _ (List.getElem_mem k1)) (List.all_eq_true.mp f2 _ (List.getElem_mem k2))
def rEqL (K : PySem.W.Frag) : R2 := fun x y H Q => ∃ a b xs ys, x = .ref a ∧ y = .ref b ∧ SqL K H a xs ∧ SqL K H b ys ∧ xs.all flatV = true ∧ ys.all flatV = true ∧ Q (.bl (eqVs xs ys)) H
def rEqT (K : PySem.W.Frag) : R2 := fun x y H Q => ∃ a b xs ys, x = .ref a ∧ y = .ref b ∧ SqT K H a xs ∧ SqT K H b ys ∧ xs.all flatV = true ∧ ys.all flatV = true ∧ Q (.bl (eqVs xs ys)) H
theorem eqVs_ints : ∀ (ns : List Int), eqVs (ns.map V.int) (ns.map V.int) = true
  | [] => rfl
  | n :: ns => by simp [eqVs, eqV, eqVs_ints ns]
theorem flat_ints : ∀ (ns : List Int), (ns.map V.int).all flatV = true
  | [] => rfl
  | n :: ns => by simp [flatV]
theorem call_isiTT : CallR X (.builtin "isinstance") (fun xs H Q => ∃ a ys, xs = [.ref a, .ty "tuple"] ∧ H a = some (.tup ys) ∧ Q (.bl true) H) := by
  intro pins s σ H xs us Q I r h
  obtain ⟨a, ys, rfl, ha, q⟩ := h
  exact call_isi pins s σ H _ us Q I r ⟨.ref a, "tuple", .type "tuple", true, rfl, .tup ha, kit_type (by decide +kernel), q⟩
end
end L2
namespace L2
open PySem PySem.Spec PyProof.Rows
section
variable {pg : Program} {wd : World} {B : Around} {X0 : Value → Shared → Prop} {s0 : Shared}
theorem nx_tup_item {j t : Addr} {k : Nat} {its : Array Value} {x : Value} {R : Value → Shared → Prop} (p : s0.heap.IsTupleIter j t k) (q : s0.heap.IsTuple t its) (e : its[k]? = some x)
    (f : ∀ h', h'.IsTupleIter j t (k + 1) → Heap.SameBut j s0.heap h' → R x { s0 with heap := h' }) : wpAny (model pg wd) B (Builtin.SmallTypes.nextOf (.ref j)) R X0 s0 := by
  obtain ⟨o, g, c, d⟩ := id p
  obtain ⟨ot, gt, _, nt, dt⟩ := q
  unfold Builtin.SmallTypes.nextOf
  refine wpAny_bind (wpAny_callSpecial?_slot (name := Str.ofString "__next__") p.typeIs F.slot_tuple_iterator_next (wpAny_call_entry F.slot_tuple_iterator_next p.typeIs F.entry_tuple_iterator_next ?_ (F.args_tuple_iterator_next_1 _)))
  show wpAny _ _ (field (.ref j) 0 >>= _) _ _ s0
  refine wpAny_bind (wpAny_field g d (x := .ref t) rfl ?_)
  show wpAny _ _ (if (Value.ref t == Value.none) = true then _ else _) _ _ s0
  rw [if_neg (show ¬ ((Value.ref t == Value.none) = true) from Bool.false_ne_true)]
  show wpAny _ _ (field (.ref j) 1 >>= _) _ _ s0
  refine wpAny_bind (wpAny_field g d (x := .int k 0) rfl ?_)
  show wpAny _ _ (seqItems? (.ref t) >>= _) _ _ s0
  refine wpAny_bind (wpAny_seqItems gt dt ?_)
  simp only [Int.toNat_natCast, e]
  refine wpAny_bind (wpAny_setField g d (by simp) (wpAny_pure ⟨x, rfl, wpAny_pure (f _ ?_ (Heap.SameBut.update ..))⟩))
  exact ⟨_, Heap.get?_update_self _ g (Obj.isFreed_of_fields (Obj.data_mapFields d _)), (Obj.cls_mapFields ..).trans c, by rw [Obj.data_mapFields d]; simp [rawInt]⟩
theorem nx_tup_end {j t : Addr} {k : Nat} {its : Array Value} {R : Value → Shared → Prop} (hh : B.handled = none) (p : s0.heap.IsTupleIter j t k) (q : s0.heap.IsTuple t its) (e : its[k]? = none)
    (f : ∀ h' z, Heap.ExtBut j s0.heap h' → (∃ o, h'.get? z = some o ∧ o.cls = .type "StopIteration") → X0 (.ref z) { s0 with heap := h' }) : wpAny (model pg wd) B (Builtin.SmallTypes.nextOf (.ref j)) R X0 s0 := by
  obtain ⟨o, g, c, d⟩ := id p
  obtain ⟨ot, gt, _, nt, dt⟩ := q
  unfold Builtin.SmallTypes.nextOf
  refine wpAny_bind (wpAny_callSpecial?_slot (name := Str.ofString "__next__") p.typeIs F.slot_tuple_iterator_next (wpAny_call_entry F.slot_tuple_iterator_next p.typeIs F.entry_tuple_iterator_next ?_ (F.args_tuple_iterator_next_1 _)))
  show wpAny _ _ (field (.ref j) 0 >>= _) _ _ s0
  refine wpAny_bind (wpAny_field g d (x := .ref t) rfl ?_)
  show wpAny _ _ (if (Value.ref t == Value.none) = true then _ else _) _ _ s0
  rw [if_neg (show ¬ ((Value.ref t == Value.none) = true) from Bool.false_ne_true)]
  show wpAny _ _ (field (.ref j) 1 >>= _) _ _ s0
  refine wpAny_bind (wpAny_field g d (x := .int k 0) rfl ?_)
  show wpAny _ _ (seqItems? (.ref t) >>= _) _ _ s0
  refine wpAny_bind (wpAny_seqItems gt dt ?_)
  simp only [Int.toNat_natCast, e]
  refine wpAny_bind (wpAny_rule (wpAny_bind (wpAny_setField g d (by simp) ?_)))
  show wpAny _ _ (newExc (.type "StopIteration") [] >>= _) _ _ _
  refine wpAny_bind ?_
  simp only [newExc, newTuple]
  refine wpAny_bind (wpAny_newObj_type ?_ (by size_fits))
  refine wpAny_bind (m := firstArgMember _ _) (wpAny_of_eq (a := Value.none) (by first | rfl | (simp only [firstArgMember]; rfl)) ?_)
  refine wpAny_newObj_type ?_ (by size_fits)
  simp only [raiseNew]
  refine wpAny_bind (wpAny_handled ?_)
  first | rw [show B.in1.handled = none from hh] | rw [hh]
  refine wpAny_bind (wpAny_pure (wpAny_throw ?_))
  exact f _ _ (((Heap.SameBut.update ..).extBut.push _).push _) ⟨_, Heap.get?_push_size _ rfl, rfl⟩
structure Apart5 (z ti ox j1 j2 t1 t2 : Addr) : Prop where
  ti_z : ti ≠ z
  ox_z : ox ≠ z
  j1_z : j1 ≠ z
  j2_z : j2 ≠ z
  ti_ox : ti ≠ ox
  ti_j1 : ti ≠ j1
  ti_j2 : ti ≠ j2
  ox_j1 : ox ≠ j1
  ox_j2 : ox ≠ j2
  j12 : j1 ≠ j2
  t1_z : t1 ≠ z
  t1_ox : t1 ≠ ox
  t1_j1 : t1 ≠ j1
  t1_j2 : t1 ≠ j2
  t2_z : t2 ≠ z
  t2_ox : t2 ≠ ox
  t2_j1 : t2 ≠ j1
  t2_j2 : t2 ≠ j2
def But4 (z ox j1 j2 : Addr) (h h' : Heap) : Prop := ∀ c o, c ≠ z → c ≠ ox → c ≠ j1 → c ≠ j2 → h.get? c = some o → h'.get? c = some o
theorem tupIt_at {h h' : Heap} {j t : Addr} {k : Nat} (p : h.IsTupleIter j t k) (f : ∀ o, h.get? j = some o → h'.get? j = some o) : h'.IsTupleIter j t k := let ⟨o, g, r⟩ := p; ⟨o, f o g, r⟩
theorem tup_at {h h' : Heap} {t : Addr} {its : Array Value} (p : h.IsTuple t its) (f : ∀ o, h.get? t = some o → h'.get? t = some o) : h'.IsTuple t its := let ⟨o, g, r⟩ := p; ⟨o, f o g, r⟩
theorem zipT_item {z ti ox j1 j2 t1 t2 : Addr} {k : Nat} {as bs : Array Value} {x y u v : Value} {R : Option Value → Shared → Prop} (ap : Apart5 z ti ox j1 j2 t1 t2) (hz : IsZip s0.heap z ti ox .none) (hi : IsPair s0.heap ti (.ref j1) (.ref j2)) (ho : IsPair s0.heap ox u v)
    (p1 : s0.heap.IsTupleIter j1 t1 k) (p2 : s0.heap.IsTupleIter j2 t2 k) (q1 : s0.heap.IsTuple t1 as) (q2 : s0.heap.IsTuple t2 bs) (e1 : as[k]? = some x) (e2 : bs[k]? = some y)
    (f : ∀ h', IsZip h' z ti ox (rawInt s0.heap.objs.size) → IsPair h' ox x y → h'.IsTupleIter j1 t1 (k + 1) → h'.IsTupleIter j2 t2 (k + 1) → IsPair h' s0.heap.objs.size x y → But4 z ox j1 j2 s0.heap h' → R (some (.ref s0.heap.objs.size)) { s0 with heap := h' }) :
    wpAny (model pg wd) B (pyNext (.ref z)) R X0 s0 := by
  have ty : s0.TypeIs (.ref z) "zip" := ⟨_, hz, rfl⟩
  unfold pyNext
  refine wpAny_bind (wpAny_attempt (wpAny_callSpecial?_slot (name := Str.ofString "__next__") ty F.slot_zip_next (wpAny_call_entry F.slot_zip_next ty F.entry_zip_next ?_ (F.args_zip_next_1 _))))
  show wpAny _ _ (field (.ref z) 2 >>= _) _ _ _
  refine wpAny_bind (wpAny_field hz rfl (x := .bool false) rfl ?_)
  show wpAny _ _ (field (.ref z) 3 >>= _) _ _ _
  refine wpAny_bind (wpAny_field hz rfl (x := .ref ti) rfl ?_)
  refine wpAny_bind (wpAny_seqItems hi rfl ?_)
  show wpAny _ _ (Builtin.SmallTypes.ownedTupleIsFree (.ref z) >>= _) _ _ _
  refine wpAny_bind ?_
  unfold Builtin.SmallTypes.ownedTupleIsFree
  refine wpAny_bind (wpAny_field hz rfl (x := .none) rfl (wpAny_pure ?_))
  simp only [if_true]
  refine wpAny_bind (wpAny_rule ?_)
  refine wpAny_bind (wpAny_field hz rfl (x := .ref ox) rfl ?_)
  refine wpAny_bind (wpAny_setField_rec hz (by simp) fun m1 zm1 sb1 => ?_)
  have zm1 : IsZip m1 z ti ox .ellipsis := zm1
  refine wpAny_bind ?_
  simp only [List.zipIdx_cons, List.zipIdx_nil, List.forIn_cons, List.forIn_nil]
  refine wpAny_bind (wpAny_bind (wpAny_onRaise ?_))
  show wpAny _ _ (Builtin.SmallTypes.nextOf (.ref j1) >>= _) _ _ _
  refine wpAny_bind (nx_tup_item (tupIt_at p1 fun o g => sb1.extBut _ _ ap.j1_z g) (tup_at q1 fun o g => sb1.extBut _ _ ap.t1_z g) e1 fun m2 pm2 sb2 => wpAny_pure ?_)
  have om2 : IsPair m2 ox u v := sb2.extBut _ _ ap.ox_j1 (sb1.extBut _ _ ap.ox_z ho)
  refine wpAny_bind (wpAny_seqItems om2 rfl ?_)
  refine wpAny_bind (wpAny_updateSeq_pair om2 fun m3 om3 sb3 => ?_)
  have om3 : IsPair m3 ox x v := om3
  refine wpAny_bind (wpAny_letGo (wpAny_pure ?_))
  refine wpAny_bind (wpAny_bind (wpAny_onRaise ?_))
  show wpAny _ _ (Builtin.SmallTypes.nextOf (.ref j2) >>= _) _ _ _
  have to3 : ∀ c o, c ≠ z → c ≠ ox → c ≠ j1 → s0.heap.get? c = some o → m3.get? c = some o := fun c o a1 a2 a3 g => sb3.extBut _ _ a2 (sb2.extBut _ _ a3 (sb1.extBut _ _ a1 g))
  refine wpAny_bind (nx_tup_item (tupIt_at p2 fun o g => to3 _ o ap.j2_z ap.ox_j2.symm ap.j12.symm g) (tup_at q2 fun o g => to3 _ o ap.t2_z ap.t2_ox ap.t2_j1 g) e2 fun m4 pm4 sb4 => wpAny_pure ?_)
  have om4 : IsPair m4 ox x v := sb4.extBut _ _ ap.ox_j2 om3
  refine wpAny_bind (wpAny_seqItems om4 rfl ?_)
  refine wpAny_bind (wpAny_updateSeq_pair om4 fun m5 om5 sb5 => ?_)
  have om5 : IsPair m5 ox x y := om5
  refine wpAny_bind (wpAny_letGo (wpAny_pure (wpAny_pure ?_)))
  refine wpAny_bind (wpAny_seqItems om5 rfl ?_)
  refine wpAny_bind (wpAny_newTuple ?_)
  have sz5 : m5.objs.size = s0.heap.objs.size := by rw [sb5.1, sb4.1, sb3.1, sb2.1, sb1.1]
  have zm5 : IsZip m5 z ti ox .ellipsis := sb5.extBut _ _ ap.ox_z.symm (sb4.extBut _ _ ap.j2_z.symm (sb3.extBut _ _ ap.ox_z.symm (sb2.extBut _ _ ap.j1_z.symm zm1)))
  have to5 : But4 z ox j1 j2 s0.heap m5 := fun c o a1 a2 a3 a4 g => sb5.extBut _ _ a2 (sb4.extBut _ _ a4 (to3 c o a1 a2 a3 g))
  have pj1 : m5.IsTupleIter j1 t1 (k + 1) := tupIt_at pm2 fun o g => sb5.extBut _ _ ap.ox_j1.symm (sb4.extBut _ _ ap.j12 (sb3.extBut _ _ ap.ox_j1.symm g))
  have pj2 : m5.IsTupleIter j2 t2 (k + 1) := tupIt_at pm4 fun o g => sb5.extBut _ _ ap.ox_j2.symm g
  have zlt : z < m5.objs.size := Heap.lt_size zm5
  show wpAny _ _ (Builtin.SmallTypes.ownedTupleHandOut (.ref z) (.ref m5.objs.size) >>= _) _ _ _
  refine wpAny_bind ?_
  unfold Builtin.SmallTypes.ownedTupleHandOut
  have zm6 : IsZip (m5.push { cls := .type "tuple", data := .seq #[x, y] }) z ti ox .ellipsis := Heap.get?_push_of_some _ zm5
  refine wpAny_bind (wpAny_setField_rec zm6 (by simp) fun m7 zm7 sb7 => ?_)
  have zm7 : IsZip m7 z ti ox (rawInt m5.objs.size) := zm7
  refine wpAny_setField_rec zm7 (by simp) fun m8 zm8 sb8 => ?_
  have zm8 : IsZip m8 z ti ox (rawInt m5.objs.size) := zm8
  have to8 : ∀ c o, c ≠ z → m5.get? c = some o → m8.get? c = some o := fun c o a1 g => sb8.extBut _ _ a1 (sb7.extBut _ _ a1 (Heap.get?_push_of_some _ g))
  have np8 : IsPair m8 m5.objs.size x y := sb8.extBut _ _ (Nat.ne_of_gt zlt) (sb7.extBut _ _ (Nat.ne_of_gt zlt) (Heap.get?_push_size _ rfl))
  rw [sz5] at zm8 np8
  refine wpAny_pure ⟨_, rfl, wpAny_pure ?_⟩
  show R (some (.ref m5.objs.size)) _
  rw [sz5]
  exact f m8 zm8 (to8 _ _ ap.ox_z om5) (tupIt_at pj1 fun o g => to8 _ o ap.j1_z g) (tupIt_at pj2 fun o g => to8 _ o ap.j2_z g) np8 fun c o a1 a2 a3 a4 g => to8 c o a1 (to5 c o a1 a2 a3 a4 g)
theorem zipT_end {z ti ox j1 j2 t1 t2 : Addr} {k : Nat} {as bs : Array Value} {u v : Value} {R : Option Value → Shared → Prop} (hh : B.handled = none) (ap : Apart5 z ti ox j1 j2 t1 t2) (hz : IsZip s0.heap z ti ox .none) (hi : IsPair s0.heap ti (.ref j1) (.ref j2)) (ho : IsPair s0.heap ox u v)
    (p1 : s0.heap.IsTupleIter j1 t1 k) (p2 : s0.heap.IsTupleIter j2 t2 k) (q1 : s0.heap.IsTuple t1 as) (q2 : s0.heap.IsTuple t2 bs) (hend : as[k]? = none ∨ bs[k]? = none)
    (f : ∀ h', But4 z ox j1 j2 s0.heap h' → R none { s0 with heap := h' }) : wpAny (model pg wd) B (pyNext (.ref z)) R X0 s0 := by
  have ty : s0.TypeIs (.ref z) "zip" := ⟨_, hz, rfl⟩
  have last : ∀ (h' : Heap) (e : Addr), But4 z ox j1 j2 s0.heap h' → (∃ o, h'.get? e = some o ∧ o.cls = .type "StopIteration") → wpAny (model pg wd) B (do if ← isInstance (.ref e) (.type "StopIteration") then pure none else throw (.ref e)) R X0 { s0 with heap := h' } := fun h' e bt ⟨o, g, c⟩ =>
    wpAny_bind (wpAny_isInstance (T := "StopIteration") (b := true) ⟨o, g, c⟩ isSubtype_stop (wpAny_pure (f _ bt)))
  unfold pyNext
  refine wpAny_bind (wpAny_attempt (wpAny_callSpecial?_slot (name := Str.ofString "__next__") ty F.slot_zip_next (wpAny_call_entry F.slot_zip_next ty F.entry_zip_next ?_ (F.args_zip_next_1 _))))
  show wpAny _ _ (field (.ref z) 2 >>= _) _ _ _
  refine wpAny_bind (wpAny_field hz rfl (x := .bool false) rfl ?_)
  show wpAny _ _ (field (.ref z) 3 >>= _) _ _ _
  refine wpAny_bind (wpAny_field hz rfl (x := .ref ti) rfl ?_)
  refine wpAny_bind (wpAny_seqItems hi rfl ?_)
  show wpAny _ _ (Builtin.SmallTypes.ownedTupleIsFree (.ref z) >>= _) _ _ _
  refine wpAny_bind ?_
  unfold Builtin.SmallTypes.ownedTupleIsFree
  refine wpAny_bind (wpAny_field hz rfl (x := .none) rfl (wpAny_pure ?_))
  simp only [if_true]
  refine wpAny_bind (wpAny_rule ?_)
  refine wpAny_bind (wpAny_field hz rfl (x := .ref ox) rfl ?_)
  refine wpAny_bind (wpAny_setField_rec hz (by simp) fun m1 zm1 sb1 => ?_)
  have zm1 : IsZip m1 z ti ox .ellipsis := zm1
  refine wpAny_bind ?_
  simp only [List.zipIdx_cons, List.zipIdx_nil, List.forIn_cons, List.forIn_nil]
  refine wpAny_bind (wpAny_bind (wpAny_onRaise ?_))
  show wpAny _ _ (Builtin.SmallTypes.nextOf (.ref j1) >>= _) _ _ _
  cases e1 : as[k]? with
  | none =>
    refine wpAny_bind (nx_tup_end hh (tupIt_at p1 fun o g => sb1.extBut _ _ ap.j1_z g) (tup_at q1 fun o g => sb1.extBut _ _ ap.t1_z g) e1 fun m2 e xb he => ?_)
    obtain ⟨oe, ge, ce⟩ := he
    have zm2 : IsZip m2 z ti ox .ellipsis := xb _ _ ap.j1_z.symm zm1
    have ez : e ≠ z := fun q => by subst q; rw [zm2] at ge; cases ge; simp at ce
    exact wpAny_setField_rec zm2 (by simp) fun m3 _ sb3 => last m3 e (fun c o a1 _ a3 _ g => sb3.extBut _ _ a1 (xb _ _ a3 (sb1.extBut _ _ a1 g))) ⟨oe, sb3.extBut _ _ ez ge, ce⟩
  | some x =>
    have e2 : bs[k]? = none := by rcases hend with q | q; rw [e1] at q; cases q; exact q
    refine wpAny_bind (nx_tup_item (tupIt_at p1 fun o g => sb1.extBut _ _ ap.j1_z g) (tup_at q1 fun o g => sb1.extBut _ _ ap.t1_z g) e1 fun m2 pm2 sb2 => wpAny_pure ?_)
    have om2 : IsPair m2 ox u v := sb2.extBut _ _ ap.ox_j1 (sb1.extBut _ _ ap.ox_z ho)
    refine wpAny_bind (wpAny_seqItems om2 rfl ?_)
    refine wpAny_bind (wpAny_updateSeq_pair om2 fun m3 om3 sb3 => ?_)
    refine wpAny_bind (wpAny_letGo (wpAny_pure ?_))
    refine wpAny_bind (wpAny_bind (wpAny_onRaise ?_))
    show wpAny _ _ (Builtin.SmallTypes.nextOf (.ref j2) >>= _) _ _ _
    have to3 : ∀ c o, c ≠ z → c ≠ ox → c ≠ j1 → s0.heap.get? c = some o → m3.get? c = some o := fun c o a1 a2 a3 g => sb3.extBut _ _ a2 (sb2.extBut _ _ a3 (sb1.extBut _ _ a1 g))
    refine wpAny_bind (nx_tup_end hh (tupIt_at p2 fun o g => to3 _ o ap.j2_z ap.ox_j2.symm ap.j12.symm g) (tup_at q2 fun o g => to3 _ o ap.t2_z ap.t2_ox ap.t2_j1 g) e2 fun m4 e xb he => ?_)
    obtain ⟨oe, ge, ce⟩ := he
    have zm4 : IsZip m4 z ti ox .ellipsis := xb _ _ ap.j2_z.symm (sb3.extBut _ _ ap.ox_z.symm (sb2.extBut _ _ ap.j1_z.symm zm1))
    have ez : e ≠ z := fun q => by subst q; rw [zm4] at ge; cases ge; simp at ce
    exact wpAny_setField_rec zm4 (by simp) fun m5 _ sb5 => last m5 e (fun c o a1 a2 a3 a4 g => sb5.extBut _ _ a1 (xb _ _ a4 (to3 c o a1 a2 a3 g))) ⟨oe, sb5.extBut _ _ ez ge, ce⟩
end
end L2
namespace L2
open PySem PySem.Spec PyProof.Rows
theorem Inv.turnedL {X : Cx} {pins : List (Addr × Obj)} {σ : St} {H : Hp} {s : Shared} {h' : Heap} {t' : Nat} {fl : List Addr} (I : Inv X pins σ H s) (kk : ∀ b o, b ∉ fl → s.heap.get? b = some o → h'.get? b = some o) (fo : ∀ b ∈ fl, FpOk X pins H b) : Inv X pins σ H { s with heap := h', toks := t' } := by
  have out : ∀ b u, H b = some u → b ∉ fl := fun b u e z => by rw [(fo b z).1] at e; cases e
  refine I.step (g' := s.gens) (d' := s.drawn) (ch := fl) (fun b hb => ?_) (fun b o _ _ hc e _ => kk b o hc e) (fun b o _ _ hc e _ => ⟨o.slots, kk b o hc e⟩) (fun _ _ _ _ q => q)
    (fun b o hc e => ⟨o, kk b o hc e⟩) (fun _ _ e => e) (fun _ _ _ e => e) (fun b ps e => ⟨#[], by rw [e]; simp⟩) (fun m hm => ?_) (fun b u e => ?_) I.bare
  · obtain ⟨_, f1, _, f3, f4, f5⟩ := fo b hb
    exact ⟨f3, f1, f4, f5⟩
  · obtain ⟨o, es, ep, ho, r⟩ := hm
    exact ⟨o, es, ep, kk _ o (fun z => (fo _ z).2.1 rfl) ho, r⟩
  · refine (I.hok b u e).stay (fun c v hc q => kk c v ?_ q) (fun _ q => q) fun _ _ q => q
    rcases hc with z | z
    · rw [z]; exact out b u e
    · exact out c _ z
def Itz (K : PySem.W.Frag) (a b : Addr) : It := ⟨fun i H => ∃ xs ys x y, SqT K H a xs ∧ SqT K H b ys ∧ xs[i]? = some x ∧ ys[i]? = some y,
  fun i H v H' => ∃ T x y, v = .ref T ∧ H T = none ∧ H' = upd H T (.tup [x, y]) ∧ ∀ xs ys, SqT K H a xs → SqT K H b ys → xs[i]? = some x ∧ ys[i]? = some y, fun i H => ∃ xs ys, SqT K H a xs ∧ SqT K H b ys ∧ (xs.length ≤ i ∨ ys.length ≤ i)⟩
theorem turn_zip {P : Program} {w : World} {K : PySem.W.Frag} {es : List Expr} {x1 : Nat} {pp : Pos} {a b z ti ox j1 j2 : Addr} (ap : Apart5 z ti ox j1 j2 a b) :
    Turn P w K (.Tuple es x1 pp) (Itz K a b) [z, ti, ox, j1, j2] z (fun i h => IsZip h z ti ox .none ∧ IsPair h ti (.ref j1) (.ref j2) ∧ (∃ u v, IsPair h ox u v) ∧ h.IsTupleIter j1 a i ∧ h.IsTupleIter j2 b i) where
  mem := by simp
  obj := fun i h q c hc => by
    obtain ⟨q1, q2, ⟨u, v, q3⟩, ⟨o4, g4, _, d4⟩, ⟨o5, g5, _, d5⟩⟩ := q
    simp only [List.mem_cons, List.not_mem_nil, or_false] at hc
    rcases hc with rfl | rfl | rfl | rfl | rfl
    · exact ⟨_, q1, fun v z => nomatch z⟩
    · exact ⟨_, q2, fun v z => nomatch z⟩
    · exact ⟨_, q3, fun v z => nomatch z⟩
    · exact ⟨_, g4, fun v z => by rw [d4] at z; cases z⟩
    · exact ⟨_, g5, fun v z => by rw [d5] at z; cases z⟩
  keep := fun i h h' q k => by
    obtain ⟨q1, q2, ⟨u, v, q3⟩, q4, q5⟩ := q
    exact ⟨k _ (by simp) _ q1, k _ (by simp) _ q2, ⟨u, v, k _ (by simp) _ q3⟩, tupIt_at q4 fun o g => k _ (by simp) o g, tupIt_at q5 fun o g => k _ (by simp) o g⟩
  item := by
    intro X hP hw hK hc i pins s σ H E I hf st hg
    subst hP hw hK
    obtain ⟨xs, ys, x, y, hq1, hq2, hx, hy⟩ := hg
    obtain ⟨q1, q2, ⟨u, v, q3⟩, q4, q5⟩ := st
    obtain ⟨as, ra, pa, za⟩ := I.tuple hq1
    obtain ⟨bs, rb, pb, zb⟩ := I.tuple hq2
    obtain ⟨ux, hux, rux⟩ := ra.get hx
    obtain ⟨uy, huy, ruy⟩ := rb.get hy
    refine zipT_item ap q1 q2 q3 q4 q5 (show s.heap.IsTuple a as.toArray from pa) (show s.heap.IsTuple b bs.toArray from pb) (x := ux) (y := uy) (by simpa using hux) (by simpa using huy) fun h' zz oo p1' p2' np bt => ?_
    have I1 : Inv X pins σ H { s with heap := h' } := I.turnedL (t' := s.toks) (fl := [z, ti, ox, j1, j2]) (fun c o hc e => by
      simp only [List.mem_cons, List.not_mem_nil, or_false, not_or] at hc
      exact bt c o hc.1 hc.2.2.1 hc.2.2.2.1 hc.2.2.2.2 e) hf
    obtain ⟨f0, f1, f2, f3, f4, f5⟩ := I.fpOk (Nat.le_refl s.heap.objs.size) (I.hok.fresh (Nat.le_refl _))
    have n0 : X.s₀.heap.get? s.heap.objs.size = none := by
      cases q : X.s₀.heap.get? s.heap.objs.size with
      | none => rfl
      | some o => exact absurd (Nat.lt_of_lt_of_le (Heap.lt_size q) I.sz) (Nat.lt_irrefl _)
    have I2 : Inv X pins σ (upd H s.heap.objs.size (.tup [x, y])) { s with heap := h' } := I1.track f0 ⟨small (by simp), [ux, uy], .cons rux (.cons ruy .nil), ⟨_, np, rfl, _, rfl⟩⟩ f1 f4 f5 n0
    have lt : ∀ {c o}, s.heap.get? c = some o → c ≠ s.heap.objs.size := fun e => Nat.ne_of_lt (Heap.lt_size e)
    have hzT : z ≠ s.heap.objs.size := lt q1
    have ti2 : IsPair h' ti (.ref j1) (.ref j2) := bt _ _ ap.ti_z ap.ti_ox ap.ti_j1 ap.ti_j2 q2
    obtain ⟨e0, e1, e2, e3, e4, e5⟩ := hf z (by simp)
    refine ⟨_, rfl, wpAny_letOwnedTupleGo_zip zz fun h2 z2 sb => ?_⟩
    have I3 : Inv X pins σ (upd H s.heap.objs.size (.tup [x, y])) { s with heap := h2 } := Inv.turned (s := { s with heap := h' }) (h' := h2) (t' := s.toks) (it := z) I2 (fun c o hc e => sb.extBut _ _ hc e) (by rw [upd_ne hzT]; exact e0) e1 e3 e4 e5
    refine ⟨.ref s.heap.objs.size, _, I3, rfl, ⟨_, x, y, rfl, f0, rfl, fun xs' ys' k1 k2 => ?_⟩, ⟨z2, sb.extBut _ _ ap.ti_z ti2, ⟨_, _, sb.extBut _ _ ap.ox_z oo⟩, tupIt_at p1' fun o g => sb.extBut _ _ ap.j1_z g, tupIt_at p2' fun o g => sb.extBut _ _ ap.j2_z g⟩, fun c hc => ?_⟩
    · rw [I.tuple_inj k1 hq1, I.tuple_inj k2 hq2]; exact ⟨hx, hy⟩
    · have cT : c ≠ s.heap.objs.size := by
        obtain ⟨o4, g4, _⟩ := q4
        obtain ⟨o5, g5, _⟩ := q5
        simp only [List.mem_cons, List.not_mem_nil, or_false] at hc
        rcases hc with rfl | rfl | rfl | rfl | rfl
        · exact hzT
        · exact lt q2
        · exact lt q3
        · exact lt g4
        · exact lt g5
      rw [upd_ne cT]; exact (hf c hc).1
  done := by
    intro X hP hw hK hc i pins s σ H E I hf st hg
    subst hP hw hK
    obtain ⟨xs, ys, hq1, hq2, hx⟩ := hg
    obtain ⟨q1, q2, ⟨u, v, q3⟩, q4, q5⟩ := st
    obtain ⟨as, ra, pa, za⟩ := I.tuple hq1
    obtain ⟨bs, rb, pb, zb⟩ := I.tuple hq2
    have la := ra.length
    have lb := rb.length
    refine zipT_end (I.ok.hd hc) ap q1 q2 q3 q4 q5 (show s.heap.IsTuple a as.toArray from pa) (show s.heap.IsTuple b bs.toArray from pb) (by rcases hx with q | q; exact .inl (by simp; omega); exact .inr (by simp; omega)) fun h' bt => ⟨rfl, ?_⟩
    exact I.turnedL (t' := s.toks) (fl := [z, ti, ox, j1, j2]) (fun c o hc e => by
      simp only [List.mem_cons, List.not_mem_nil, or_false, not_or] at hc
      exact bt c o hc.1 hc.2.2.1 hc.2.2.2.1 hc.2.2.2.2 e) hf
  self := fun _ _ _ _ _ st h => wpAny_pyIter_zip st.1 h
abbrev zt1 (h : Heap) (a : Addr) : Heap := h.push { cls := .type "tuple_iterator", data := .fields #[.ref a, .int 0 0] }
abbrev zt2 (h : Heap) (a b : Addr) : Heap := (zt1 h a).push { cls := .type "tuple_iterator", data := .fields #[.ref b, .int 0 0] }
abbrev zt3 (h : Heap) (a b : Addr) : Heap := (zt2 h a b).push { cls := .type "tuple", data := .seq #[.ref h.objs.size, .ref (zt1 h a).objs.size] }
abbrev zt4 (h : Heap) (a b : Addr) : Heap := (zt3 h a b).push { cls := .type "tuple", data := .seq #[.none, .none] }
abbrev zt5 (h : Heap) (a b : Addr) : Heap := (zt4 h a b).push { cls := .type "zip", data := .fields #[.none, .bool false, .bool false, .ref (zt2 h a b).objs.size, .ref (zt3 h a b).objs.size] }
theorem zipT_new (a b : Addr) (as bs : Array Value) : Meets (Builtin.«zip.__new__» ⟨[.type "zip", .ref a, .ref b], []⟩) (fun _ R s => s.heap.IsTuple a as ∧ s.heap.IsTuple b bs ∧ R (.ok (.ret (.ref (zt4 s.heap a b).objs.size))) { s with heap := zt5 s.heap a b }) :=
  .of_wp fun prog w A R s h => by
    obtain ⟨hp, g, d, tk, os⟩ := s
    obtain ⟨ha, hb, h⟩ := h
    have q0 := sub_zip
    have q1 : Heap.IsTuple (Shared.heap ⟨hp, g, d, tk, os⟩) a as := ha
    have q2 : Heap.IsTuple (Shared.heap ⟨hp.push { cls := .type "tuple_iterator", data := .fields #[.ref a, .int 0 0] }, g, d, tk, os⟩) b bs := tup_at hb fun o e => Heap.get?_push_of_some _ e
    wp_walk using wpAny_pyIter_tuple q1, wpAny_pyIter_tuple q2
    exact ⟨_, rfl, h⟩
theorem zipT_call {pg : Program} {wd : World} {B : Around} {X0 : Value → Shared → Prop} {s0 : Shared} {a b : Addr} {as bs : Array Value} {R : Value → Shared → Prop} (ha : s0.heap.IsTuple a as) (hb : s0.heap.IsTuple b bs)
    (f : ∀ h', IsZip h' (s0.heap.objs.size + 4) (s0.heap.objs.size + 2) (s0.heap.objs.size + 3) .none → IsPair h' (s0.heap.objs.size + 2) (.ref s0.heap.objs.size) (.ref (s0.heap.objs.size + 1)) → IsPair h' (s0.heap.objs.size + 3) .none .none →
      h'.IsTupleIter s0.heap.objs.size a 0 → h'.IsTupleIter (s0.heap.objs.size + 1) b 0 → (∀ c o, s0.heap.get? c = some o → h'.get? c = some o) → R (.ref (s0.heap.objs.size + 4)) { s0 with heap := h' }) :
    wpAny (model pg wd) B (call (.type "zip") [.ref a, .ref b]) R X0 s0 := by
  refine callType_new F.called_zip (by decide) (F.typeCall_zip_2 _ _) (F.newCall_zip_2 _ _) (fun ob => F.args_object_init_3 ob _ _) F.entry_zip_new (zipT_new a b as bs) ⟨ha, hb, ?_⟩
  have n1 : (zt1 s0.heap a).objs.size = s0.heap.objs.size + 1 := Heap.size_push ..
  have n2 : (zt2 s0.heap a b).objs.size = s0.heap.objs.size + 2 := by rw [Heap.size_push, n1]
  have n3 : (zt3 s0.heap a b).objs.size = s0.heap.objs.size + 3 := by rw [Heap.size_push, n2]
  have n4 : (zt4 s0.heap a b).objs.size = s0.heap.objs.size + 4 := by rw [Heap.size_push, n3]
  have g5 : (zt5 s0.heap a b).get? (zt4 s0.heap a b).objs.size = some _ := Heap.get?_push_size _ rfl
  have g4 : (zt5 s0.heap a b).get? (zt3 s0.heap a b).objs.size = some _ := Heap.get?_push_of_some _ (Heap.get?_push_size _ rfl)
  have g3 : (zt5 s0.heap a b).get? (zt2 s0.heap a b).objs.size = some _ := Heap.get?_push_of_some _ (Heap.get?_push_of_some _ (Heap.get?_push_size _ rfl))
  have g2 : (zt5 s0.heap a b).get? (zt1 s0.heap a).objs.size = some _ := Heap.get?_push_of_some _ (Heap.get?_push_of_some _ (Heap.get?_push_of_some _ (Heap.get?_push_size _ rfl)))
  have g1 : (zt5 s0.heap a b).get? s0.heap.objs.size = some _ := Heap.get?_push_of_some _ (Heap.get?_push_of_some _ (Heap.get?_push_of_some _ (Heap.get?_push_of_some _ (Heap.get?_push_size _ rfl))))
  show _ ∧ _
  rw [n2, n3, n4] at g5
  rw [n1, n2] at g3
  rw [n3] at g4
  rw [n1] at g2
  rw [n4]
  exact ⟨⟨_, g5, rfl⟩, f _ g5 g3 g4 ⟨_, g1, rfl, rfl⟩ ⟨_, g2, rfl, rfl⟩ fun c o q => Heap.get?_push_of_some _ (Heap.get?_push_of_some _ (Heap.get?_push_of_some _ (Heap.get?_push_of_some _ (Heap.get?_push_of_some _ q))))⟩
theorem apart_of (n a b : Nat) (ha : a < n) (hb : b < n) : Apart5 (n + 4) (n + 2) (n + 3) n (n + 1) a b := by
  constructor <;> first | exact Nat.ne_of_lt (by omega) | exact Nat.ne_of_gt (by omega)
section
variable {X : Cx} {es : List Expr} {x1 : Nat} {pp : Pos}
def iZip (K : PySem.W.Frag) (ta : TA) : TI := fun σ H R => ta σ H fun vs H1 => ∃ a b xs ys, vs = [.ref a, .ref b] ∧ SqT K H1 a xs ∧ SqT K H1 b ys ∧ R (Itz K a b) H1
theorem pi_zip {e1 e2 : Expr} {ta : TA} {p pos : Pos} (hg : Gl X "zip") (hm : X.mg "zip" = none) (ha : PA X [e1, e2] ta) (hs : starEach [e1, e2] X.env = [(false, eval e1 X.env), (false, eval e2 X.env)] := by rfl) (hs2 : starEach [e2] X.env = [(false, eval e2 X.env)] := by rfl) :
    PI X (.Tuple es x1 pp) (.Call (.Name "zip" p) [e1, e2] [] pos) (iZip X.K ta) := by
  intro pins s σ H R I h
  have hA := ha pos pins s σ H _ I h
  refine Call_ (ld_blt I hg hm boot_zip (PyProof.Rows.callWith_type1 (thn hA fun us s1 ⟨vs, H1, I1, r1, q1⟩ => ?_) (by rw [hs, hs2]) (by rw [hs2]; rfl)))
  obtain ⟨a, b, xs, ys, rfl, ha, hb, q⟩ := q1
  obtain ⟨u, u', rfl, ra, rb⟩ := vals2 r1
  cases (show u = Value.ref a from ra)
  cases (show u' = Value.ref b from rb)
  obtain ⟨as, va, pa, za⟩ := I1.tuple ha
  obtain ⟨bs, vb, pb, zb⟩ := I1.tuple hb
  have al : a < s1.heap.objs.size := by obtain ⟨o, g, _⟩ := pa; exact Heap.lt_size g
  have bl : b < s1.heap.objs.size := by obtain ⟨o, g, _⟩ := pb; exact Heap.lt_size g
  refine zipT_call (show s1.heap.IsTuple a as.toArray from pa) (show s1.heap.IsTuple b bs.toArray from pb) fun h' w1 w2 w3 w4 w5 kk => ?_
  have I2 : Inv X pins σ H1 { s1 with heap := h' } := I1.kept (t' := s1.toks) kk
  have ap := apart_of s1.heap.objs.size a b al bl
  refine wpAny_pyIter_zip w1 ⟨s1.heap.objs.size + 4, [s1.heap.objs.size + 4, s1.heap.objs.size + 2, s1.heap.objs.size + 3, s1.heap.objs.size, s1.heap.objs.size + 1], _, _, H1, rfl, I2, turn_zip ap, ⟨w1, w2, ⟨_, _, w3⟩, w4, w5⟩, fun c hc => ?_, q⟩
  have ge : s1.heap.objs.size ≤ c := by
    simp only [List.mem_cons, List.not_mem_nil, or_false] at hc
    rcases hc with rfl | rfl | rfl | rfl | rfl <;> omega
  exact I1.fpOk ge (I1.hok.fresh ge)
end
def LoopZ (K : PySem.W.Frag) (g : TG) (tb : TS) (D : Ends) (σ : St) (vs : List V) (H1 : Hp) : Prop := ∃ a b xs ys, vs = [.ref a, .ref b] ∧ SqT K H1 a xs ∧ SqT K H1 b ys ∧ ∃ W : Nat → Nat → St → Hp → Prop, (∃ m, W 0 m σ H1) ∧ ∀ i m σ H, W i m σ H →
  ((Itz K a b).stop i H ∧ D.nx σ H) ∨ ((Itz K a b).go i H ∧ ∃ N : St → Hp → Prop, (∀ σ' H', N σ' H' → ∃ m', m' < m ∧ W (i + 1) m' σ' H') ∧ ∀ x H', (Itz K a b).yld i H x H' → g x σ H' fun σ2 H2 => tb { D with nx := N, ct := N, bk := D.nx } σ2 H2)
theorem for_eqZ {K : PySem.W.Frag} {ta : TA} {g : TG} {tb : TS} {D : Ends} {σ : St} {H : Hp} : tFor (iZip K ta) g tb D σ H = ta σ H fun vs H1 => LoopZ K g tb D σ vs H1 := rfl
theorem LoopZ.mk {K : PySem.W.Frag} {a b : Addr} {xs ys : List V} {g : TG} {tb : TS} {D : Ends} {σ : St} {H : Hp} (n : Nat) (hn : n = min xs.length ys.length) (h1 : SqT K H a xs) (h2 : SqT K H b ys) (Pv : Nat → St → Hp → Prop) (h0 : Pv 0 σ H) (hl : ∀ i σ H, i ≤ n → Pv i σ H → SqT K H a xs ∧ SqT K H b ys)
    (hs : ∀ i x y σ H T, i < n → xs[i]? = some x → ys[i]? = some y → Pv i σ H → H T = none → g (.ref T) σ (upd H T (.tup [x, y])) fun σ2 H2 => tb { D with nx := Pv (i + 1), ct := Pv (i + 1), bk := D.nx } σ2 H2) (hd : ∀ σ H, Pv n σ H → D.nx σ H) :
    LoopZ K g tb D σ [.ref a, .ref b] H := by
  subst hn
  refine ⟨a, b, xs, ys, rfl, h1, h2, fun i m σ H => m = min xs.length ys.length - i ∧ i ≤ min xs.length ys.length ∧ Pv i σ H, ⟨_, rfl, Nat.zero_le _, h0⟩, ?_⟩
  rintro i m σ H ⟨rfl, hi, p⟩
  obtain ⟨k1, k2⟩ := hl i σ H hi p
  by_cases hlt : i < min xs.length ys.length
  · have l1 : i < xs.length := by omega
    have l2 : i < ys.length := by omega
    refine .inr ⟨⟨xs, ys, _, _, k1, k2, List.getElem?_eq_getElem l1, List.getElem?_eq_getElem l2⟩, Pv (i + 1), fun σ' H' p' => ⟨min xs.length ys.length - (i + 1), by omega, rfl, hlt, p'⟩, fun v H' yy => ?_⟩
    obtain ⟨T, x, y, rfl, hT, rfl, ex⟩ := yy
    obtain ⟨ex1, ex2⟩ := ex xs ys k1 k2
    exact hs i x y σ H T hlt ex1 ex2 p hT
  · have e : i = min xs.length ys.length := by omega
    exact .inl ⟨⟨xs, ys, k1, k2, by omega⟩, hd σ H (e ▸ p)⟩
def CompZ (K : PySem.W.Frag) (k : Nat) (js : List Nat) (g : TG) (te : TE) (σ : St) (vs : List V) (H1 : Hp) (Q : VK) : Prop := ∃ a b xs ys, vs = [.ref a, .ref b] ∧ SqT K H1 a xs ∧ SqT K H1 b ys ∧ ∃ W : Nat → Nat → List V → St → Hp → Prop, (∃ m, W 0 m [] (compSt k js σ) H1) ∧ ∀ i m zs σ' H', W i m zs σ' H' →
    ((Itz K a b).stop i H' ∧ ∀ p, H' p = none → Q (.ref p) (upd H' p (.lst zs))) ∨
    ((Itz K a b).go i H' ∧ zs.length < sizeLine ∧ ∃ N : List V → St → Hp → Prop, (∀ zs σ2 H2, N zs σ2 H2 → ∃ m', m' < m ∧ W (i + 1) m' zs σ2 H2) ∧ ∀ x H2, (Itz K a b).yld i H' x H2 → g x σ' H2 fun σ3 H3 => te σ3 H3 fun v H4 => N (zs ++ [v]) σ3 H4)
theorem comp_eqZ {K : PySem.W.Frag} {k : Nat} {js : List Nat} {ta : TA} {g : TG} {te : TE} {σ : St} {H : Hp} {Q : VK} : tComp (iZip K ta) k js g te σ H Q = ta σ H fun vs H1 => CompZ K k js g te σ vs H1 Q := rfl
theorem CompZ.mk {K : PySem.W.Frag} {a b : Addr} {xs ys : List V} {k : Nat} {js : List Nat} {g : TG} {te : TE} {Q : VK} {σ : St} {H : Hp} (n : Nat) (hn : n = min xs.length ys.length) (h1 : SqT K H a xs) (h2 : SqT K H b ys) (Pv : Nat → List V → St → Hp → Prop) (h0 : Pv 0 [] (compSt k js σ) H) (hl : ∀ i zs σ H, i ≤ n → Pv i zs σ H → SqT K H a xs ∧ SqT K H b ys)
    (hs : ∀ i x y zs σ H T, i < n → xs[i]? = some x → ys[i]? = some y → Pv i zs σ H → H T = none → zs.length < sizeLine ∧ g (.ref T) σ (upd H T (.tup [x, y])) fun σ3 H3 => te σ3 H3 fun v H4 => Pv (i + 1) (zs ++ [v]) σ3 H4) (hz : ∀ zs σ H, Pv n zs σ H → ∀ p, H p = none → Q (.ref p) (upd H p (.lst zs))) (hlen : ∀ i zs σ H, Pv i zs σ H → zs.length < sizeLine) :
    CompZ K k js g te σ [.ref a, .ref b] H Q := by
  subst hn
  refine ⟨a, b, xs, ys, rfl, h1, h2, fun i m zs σ H => m = min xs.length ys.length - i ∧ i ≤ min xs.length ys.length ∧ Pv i zs σ H, ⟨_, rfl, Nat.zero_le _, h0⟩, ?_⟩
  rintro i m zs σ H ⟨rfl, hi, p⟩
  obtain ⟨k1, k2⟩ := hl i zs σ H hi p
  by_cases hlt : i < min xs.length ys.length
  · have l1 : i < xs.length := by omega
    have l2 : i < ys.length := by omega
    refine .inr ⟨⟨xs, ys, _, _, k1, k2, List.getElem?_eq_getElem l1, List.getElem?_eq_getElem l2⟩, hlen _ _ _ _ p, Pv (i + 1), fun zs' σ' H' p' => ⟨min xs.length ys.length - (i + 1), by omega, rfl, hlt, p'⟩, fun v H' yy => ?_⟩
    obtain ⟨T, x, y, rfl, hT, rfl, ex⟩ := yy
    obtain ⟨ex1, ex2⟩ := ex xs ys k1 k2
    exact (hs i x y zs σ H T hlt ex1 ex2 p hT).2
  · have e : i = min xs.length ys.length := by omega
    exact .inl ⟨⟨xs, ys, k1, k2, by omega⟩, hz zs σ H (e ▸ p)⟩
end L2
namespace L2
open PySem PySem.Spec PyProof.Rows
section
variable {X : Cx}
theorem call_sumL (hc : X.calm = true) : CallR X (.builtin "sum") (fun xs H Q => ∃ (a : Addr) (ns : List Int), xs = [.ref a] ∧ SqL X.K H a (ns.map V.int) ∧ Q (.int ns.sum) H) := by
  intro pins s σ H xs us Q I r h
  obtain ⟨a, ns, rfl, hq, q⟩ := h
  obtain ⟨u, rfl, ru⟩ := vals1 r
  cases (show u = Value.ref a from ru)
  obtain ⟨its, rv, pl, hz⟩ := I.list hq
  have hi := intsAre_of rv
  have hn := hi.numsOf
  obtain ⟨ps, e⟩ := hi.allInts.items
  have hl : s.heap.IsList a (intItems ps) := e ▸ pl.isList
  refine sum_intListG (I.ok.hd hc) hl fun h' tk t' kk => ?_
  have e2 : preSum (numAt ps) ps.size = ns.sum := by
    rw [preSum_eq, List.take_of_length_le (by simp), ← nums_intItems, ← e]
    exact congrArg List.sum hn
  rw [e2]
  exact ⟨.int ns.sum, H, I.kept kk, ⟨t', rfl⟩, q⟩
def Its (lo st : Int) (n : Nat) : It := ⟨fun i _ => i < n, fun i H x H' => H' = H ∧ x = .int (lo + i * st), fun i _ => n ≤ i⟩
def iRng3 (ta : TA) : TI := fun σ H R => ta σ H fun vs H1 => ∃ i j c : Int, vs = [.int i, .int j, .int c] ∧ (c ≠ 0 ∧ c.natAbs < 1073741824 ∧ Builtin.Range.small i j c = true) ∧ R (Its i c (Builtin.Range.rangeSize i j c).toNat) H1
end
def LoopS (lo st : Int) (n : Nat) (g : TG) (tb : TS) (D : Ends) (σ : St) (H1 : Hp) : Prop := ∃ W : Nat → Nat → St → Hp → Prop, (∃ m, W 0 m σ H1) ∧ ∀ i m σ H, W i m σ H →
  ((Its lo st n).stop i H ∧ D.nx σ H) ∨ ((Its lo st n).go i H ∧ ∃ N : St → Hp → Prop, (∀ σ' H', N σ' H' → ∃ m', m' < m ∧ W (i + 1) m' σ' H') ∧ ∀ x H', (Its lo st n).yld i H x H' → g x σ H' fun σ2 H2 => tb { D with nx := N, ct := N, bk := D.nx } σ2 H2)
theorem for_eqR3 {ta : TA} {g : TG} {tb : TS} {D : Ends} {σ : St} {H : Hp} : tFor (iRng3 ta) g tb D σ H = ta σ H fun vs H1 => ∃ i j c : Int, vs = [.int i, .int j, .int c] ∧ (c ≠ 0 ∧ c.natAbs < 1073741824 ∧ Builtin.Range.small i j c = true) ∧ LoopS i c (Builtin.Range.rangeSize i j c).toNat g tb D σ H1 := rfl
theorem LoopS.mk {lo st : Int} {n : Nat} {g : TG} {tb : TS} {D : Ends} {σ : St} {H : Hp} (Pv : Nat → St → Hp → Prop) (h0 : Pv 0 σ H)
    (hs : ∀ i σ H, i < n → Pv i σ H → g (.int (lo + i * st)) σ H fun σ2 H2 => tb { D with nx := Pv (i + 1), ct := Pv (i + 1), bk := D.nx } σ2 H2) (hd : ∀ σ H, Pv n σ H → D.nx σ H) : LoopS lo st n g tb D σ H := by
  refine ⟨fun i m σ H => m = n - i ∧ i ≤ n ∧ Pv i σ H, ⟨_, rfl, Nat.zero_le _, h0⟩, ?_⟩
  rintro i m σ H ⟨rfl, hi, p⟩
  by_cases hlt : i < n
  · refine .inr ⟨hlt, Pv (i + 1), fun σ' H' p' => ⟨n - (i + 1), by omega, rfl, hlt, p'⟩, fun v H' yy => ?_⟩
    obtain ⟨rfl, rfl⟩ := yy
    exact hs i σ _ hlt p
  · have e : i = n := by omega
    exact .inl ⟨(show n ≤ i by omega), hd σ H (e ▸ p)⟩
def CompS (lo st : Int) (n k : Nat) (js : List Nat) (g : TG) (te : TE) (σ : St) (H1 : Hp) (Q : VK) : Prop := ∃ W : Nat → Nat → List V → St → Hp → Prop, (∃ m, W 0 m [] (compSt k js σ) H1) ∧ ∀ i m ys σ' H', W i m ys σ' H' →
    ((Its lo st n).stop i H' ∧ ∀ p, H' p = none → Q (.ref p) (upd H' p (.lst ys))) ∨
    ((Its lo st n).go i H' ∧ ys.length < sizeLine ∧ ∃ N : List V → St → Hp → Prop, (∀ zs σ2 H2, N zs σ2 H2 → ∃ m', m' < m ∧ W (i + 1) m' zs σ2 H2) ∧ ∀ x H2, (Its lo st n).yld i H' x H2 → g x σ' H2 fun σ3 H3 => te σ3 H3 fun v H4 => N (ys ++ [v]) σ3 H4)
theorem comp_eqR3 {k : Nat} {js : List Nat} {ta : TA} {g : TG} {te : TE} {σ : St} {H : Hp} {Q : VK} : tComp (iRng3 ta) k js g te σ H Q = ta σ H fun vs H1 => ∃ i j c : Int, vs = [.int i, .int j, .int c] ∧ (c ≠ 0 ∧ c.natAbs < 1073741824 ∧ Builtin.Range.small i j c = true) ∧ CompS i c (Builtin.Range.rangeSize i j c).toNat k js g te σ H1 Q := rfl
theorem CompS.mk {lo st : Int} {n k : Nat} {js : List Nat} {g : TG} {te : TE} {Q : VK} {σ : St} {H : Hp} (Pv : Nat → List V → St → Hp → Prop) (h0 : Pv 0 [] (compSt k js σ) H) (hlen : ∀ i ys σ H, Pv i ys σ H → ys.length < sizeLine)
    (hs : ∀ i ys σ H, i < n → Pv i ys σ H → g (.int (lo + i * st)) σ H fun σ3 H3 => te σ3 H3 fun v H4 => Pv (i + 1) (ys ++ [v]) σ3 H4) (hd : ∀ ys σ H, Pv n ys σ H → ∀ p, H p = none → Q (.ref p) (upd H p (.lst ys))) : CompS lo st n k js g te σ H Q := by
  refine ⟨fun i m ys σ H => m = n - i ∧ i ≤ n ∧ Pv i ys σ H, ⟨_, rfl, Nat.zero_le _, h0⟩, ?_⟩
  rintro i m ys σ H ⟨rfl, hi, p⟩
  by_cases hlt : i < n
  · refine .inr ⟨hlt, hlen _ _ _ _ p, Pv (i + 1), fun zs σ' H' p' => ⟨n - (i + 1), by omega, rfl, hlt, p'⟩, fun v H' yy => ?_⟩
    obtain ⟨rfl, rfl⟩ := yy
    exact hs i ys σ _ hlt p
  · have e : i = n := by omega
    exact .inl ⟨(show n ≤ i by omega), hd ys σ H (e ▸ p)⟩
end L2
namespace L2
open PySem PySem.Spec PyProof.Rows
open AutoSeq1 (wpAny_loadPart')
theorem tup_norf_mul : fillsNumberSlot (.type "tuple") "mul" = pure false :=
  PySem.fillsNumberSlot_seq (id := "tuple.__mul__") (r := some (.builtin "tuple.__rmul__")) F.slot_tuple_mul.lookup (by decide +kernel) (by rw [typeLookup_type, builtinLookup_eq_fast]; kernel_rfl) (by decide +kernel)
theorem tup_repeat : seqRepeat? (.type "tuple") = pure (some (.builtin "tuple.__mul__")) := by
  have e1 : typeLookup (.type "tuple") "__rmul__" = pure (some (.builtin "tuple.__rmul__")) := by rw [typeLookup_type, builtinLookup_eq_fast]; kernel_rfl
  unfold seqRepeat?
  rw [PySem.seqSlot_of (T := "tuple") (name := "__mul__") (id := "tuple.__mul__") F.slot_tuple_mul.lookup (by decide +kernel), PySem.seqSlot_of (T := "tuple") (name := "__rmul__") (id := "tuple.__rmul__") e1 (by decide +kernel)]
  rfl
theorem int_rmul_tup (k : Int) (t : Tok) (l : Addr) (its : Array Value) (n : Nat) (dd : Option Addr) (sl : Array (Option Value)) :
    Meets (Builtin.«int.__rmul__» ⟨[.int k t, .ref l], []⟩) (fun _ R s => s.heap.get? l = some { cls := .type "tuple", dict := dd, data := .seq its n, slots := sl } ∧ R (.ok (.ret Value.notImplemented)) s) :=
  .of_wp fun prog w A R s h => by obtain ⟨hp, g, d, tk, os⟩ := s; obtain ⟨hl, h⟩ := h; wp_walk; exact ⟨_, rfl, h⟩
theorem tup_mul_one (l : Addr) (its : Array Value) (n : Nat) (u : Tok) (dd : Option Addr) (sl : Array (Option Value)) :
    Meets (Builtin.«tuple.__mul__» ⟨[.ref l, .int 1 u], []⟩) (fun _ R s => s.heap.get? l = some { cls := .type "tuple", dict := dd, data := .seq its n, slots := sl } ∧ R (.ok (.ret (.ref l))) s) :=
  .of_wp fun prog w A R s h => by
    obtain ⟨hp, g, d, tk, os⟩ := s; obtain ⟨hl, h⟩ := h
    have f1 := AutoSeq1.idx_int
    have c1 : ¬ ((decide ((1 : Int) < -(2 ^ 63)) || decide ((1 : Int) ≥ 2 ^ 63)) = true) := by decide
    have c2 : (its.isEmpty || (1 : Int) == 1) = true := by simp
    wp_walk using wpAny_loadPart' hl
    exact ⟨_, rfl, h⟩
theorem tup_mul_no (l : Addr) (its : Array Value) (n : Nat) (k : Int) (u : Tok) (dd : Option Addr) (sl : Array (Option Value)) (h0 : k ≤ 0) (h1 : -(2 ^ 63) ≤ k) (ne : its.isEmpty = false) :
    Meets (Builtin.«tuple.__mul__» ⟨[.ref l, .int k u], []⟩) (fun _ R s => s.heap.get? l = some { cls := .type "tuple", dict := dd, data := .seq its n, slots := sl } ∧ R (.ok (.ret (.ref s.heap.objs.size))) { s with heap := s.heap.push { cls := .type "tuple", data := .seq #[] } }) :=
  .of_wp fun prog w A R s h => by
    obtain ⟨hp, g, d, tk, os⟩ := s; obtain ⟨hl, h⟩ := h
    have f1 := AutoSeq1.idx_int
    have c1 : ¬ ((decide (k < -(2 ^ 63)) || decide (k ≥ 2 ^ 63)) = true) := by simp; omega
    have c2 : ¬ (its.isEmpty || k == 1) = true := by simp [ne]; omega
    have c3 : (decide (k ≤ 0) || its.isEmpty) = true := by simp [h0]
    wp_walk using wpAny_loadPart' hl
    rw [if_neg c1]
    wp_walk using wpAny_loadPart' hl
    rw [if_neg c2]
    dsimp only
    rw [if_pos c3]
    wp_walk
    exact ⟨_, rfl, h⟩
theorem tup_mul_many (l : Addr) (its : Array Value) (n : Nat) (k : Int) (u : Tok) (dd : Option Addr) (sl : Array (Option Value)) (h0 : 1 < k) (h1 : k < 2 ^ 63) (ne : its.isEmpty = false) (hz : its.size * k.toNat ≤ sizeLine) :
    Meets (Builtin.«tuple.__mul__» ⟨[.ref l, .int k u], []⟩) (fun _ R s => s.heap.get? l = some { cls := .type "tuple", dict := dd, data := .seq its n, slots := sl } ∧ R (.ok (.ret (.ref s.heap.objs.size))) { s with heap := s.heap.push { cls := .type "tuple", data := .seq ((List.replicate k.toNat its).foldl (· ++ ·) #[]) } }) :=
  .of_wp fun prog w A R s h => by
    obtain ⟨hp, g, d, tk, os⟩ := s; obtain ⟨hl, h⟩ := h
    have f1 := AutoSeq1.idx_int
    have ek : (its.size : Int) * k = ((its.size * k.toNat : Nat) : Int) := by rw [Int.natCast_mul]; congr 1; omega
    have sl63 : (sizeLine : Int) ≤ (2 ^ 63 - 1) / 8 := by rw [sizeLine_eq]; decide
    have c1 : ¬ ((decide (k < -(2 ^ 63)) || decide (k ≥ 2 ^ 63)) = true) := by simp; omega
    have c2 : ¬ (its.isEmpty || k == 1) = true := by simp [ne]; omega
    have c3 : ¬ (decide (k ≤ 0) || its.isEmpty) = true := by simp [ne]; omega
    have c4 : ¬ ((its.size : Int) * k > (2 ^ 63 - 1) / 8) := by rw [ek]; omega
    have c5 : ¬ (Builtin.Tuple.tupleTooMany ((its.size : Int) * k) = true) := by
      unfold Builtin.Tuple.tupleTooMany
      rw [ek, decide_eq_true_eq]; omega
    have c6 : ((List.replicate k.toNat its).foldl (· ++ ·) #[]).size ≤ sizeLine := by
      have e : ∀ (m : Nat) (a : Array Value), ((List.replicate m its).foldl (· ++ ·) a).size = a.size + m * its.size := by
        intro m
        induction m with
        | zero => intro a; simp
        | succ m ih => intro a; rw [List.replicate_succ, List.foldl_cons, ih]; simp [Nat.succ_mul]; omega
      rw [e]; simp; rw [Nat.mul_comm]; exact hz
    wp_walk using wpAny_loadPart' hl
    rw [if_neg c1]
    wp_walk using wpAny_loadPart' hl
    rw [if_neg c2]
    dsimp only
    rw [if_neg c3]
    rw [if_neg c4]
    rw [if_neg c5]
    unfold Builtin.Tuple.tupleExact
    refine wpAny_bind (wpAny_newObj_type (wpAny_pure ?_) c6)
    exact ⟨_, rfl, h⟩
section
variable {X : Cx}
def rRepT : R2 := fun x y H Q => ∃ a k xs, x = .ref a ∧ y = .int k ∧ H a = some (.tup xs) ∧ xs ≠ [] ∧ (0 ≤ k ∧ k < 2 ^ 63) ∧ xs.length * k.toNat ≤ sizeLine ∧ (k = 1 → Q (.ref a) H) ∧ (k ≠ 1 → ∀ p, H p = none → Q (.ref p) (upd H p (.tup (List.replicate k.toNat xs).flatten)))
theorem op_repT : OpR X (binaryOp .Mult) rRepT := by
  intro pins s σ H x y v u Q I rx ry h
  obtain ⟨a, k, xs, rfl, rfl, hH, hx, ⟨h1, h2⟩, hz, q1, q2⟩ := h
  cases rx
  obtain ⟨t, rfl⟩ := ry
  obtain ⟨its, r, pl, _⟩ := I.tuple (.of hH)
  obtain ⟨⟨c, dd, dt, sl⟩, g, hc, n, hd⟩ := id pl
  simp only at hc hd
  subst hc hd
  have hl := r.length
  have ne : its.toArray.isEmpty = false := by
    cases its with
    | nil => exact absurd (r.nil_iff.mp rfl) hx
    | cons _ _ => rfl
  have hz' : its.toArray.size * k.toNat ≤ sizeLine := by rw [List.size_toArray, ← hl]; exact hz
  refine wpAny_binaryOp_repeat_ref (T := "tuple") (U := "int") (by decide) ⟨_, g, rfl⟩ (fun s' => typeIs_int s' k t) tup_norf_mul F.fills_int_mul F.slot_int_rmul tup_repeat F.slot_int_index.lookup
    (call_meets F.slot_int_rmul (typeIs_int s k t) F.entry_int_rmul (F.args_int_rmul_2 _ _) (int_rmul_tup k t a its.toArray n dd sl) ⟨g, rfl, ⟨_, g, rfl⟩, ?_⟩)
  by_cases e1 : k = 1
  · subst e1
    exact call_meets F.slot_tuple_mul ⟨_, g, rfl⟩ F.entry_tuple_mul (F.args_tuple_mul_2 _ _) (tup_mul_one a its.toArray n t dd sl) ⟨g, .ref a, H, I, rfl, q1 rfl⟩
  have fl : ∀ (m : Nat) (b : List Value), (List.replicate m its.toArray).foldl (· ++ ·) b.toArray = (b ++ (List.replicate m its).flatten).toArray := by
    intro m
    induction m with
    | zero => intro b; simp
    | succ m ih =>
      intro b
      rw [List.replicate_succ, List.foldl_cons, List.append_toArray, ih, List.replicate_succ, List.flatten_cons, List.append_assoc]
  have fin : ∀ bs : List Value, bs = (List.replicate k.toNat its).flatten → EP X pins σ Q (.ref s.heap.objs.size) { s with heap := s.heap.push { cls := .type "tuple", data := .seq bs.toArray } } := by
    rintro bs rfl
    refine ⟨.ref s.heap.objs.size, _, I.laid (t' := s.toks) (o := .tup (List.replicate k.toNat xs).flatten) (fun b ob q => Heap.get?_push_of_some _ q) (Nat.le_refl _) ?_, rfl, q2 e1 _ (I.hok.fresh (Nat.le_refl _))⟩
    exact ⟨by rw [len_rep, Nat.mul_comm]; exact hz, _, r.rep k.toNat, IsTup.new _ _⟩
  by_cases e0 : k = 0
  · subst e0
    exact call_meets F.slot_tuple_mul ⟨_, g, rfl⟩ F.entry_tuple_mul (F.args_tuple_mul_2 _ _) (tup_mul_no a its.toArray n 0 t dd sl (by omega) (by omega) ne) ⟨g, fin [] rfl⟩
  · refine call_meets F.slot_tuple_mul ⟨_, g, rfl⟩ F.entry_tuple_mul (F.args_tuple_mul_2 _ _) (tup_mul_many a its.toArray n k t dd sl (by omega) h2 ne hz') ⟨g, ?_⟩
    have e := fl k.toNat []
    rw [List.nil_append] at e
    show EP X pins σ Q (.ref s.heap.objs.size) { s with heap := s.heap.push { cls := .type "tuple", data := .seq ((List.replicate k.toNat its.toArray).foldl (· ++ ·) ([] : List Value).toArray) } }
    rw [e]
    exact fin _ rfl
end
end L2
namespace L2
open PySem PySem.Spec PyProof.Rows
section
variable {X : Cx}
def rCatS : R2 := fun x y H Q => ∃ a b xs ys, x = .ref a ∧ y = .ref b ∧ H a = some (.tup xs) ∧ H b = some (.tup ys) ∧ xs.length + ys.length ≤ sizeLine ∧ ∀ r H', Same H H' → H' r = some (.tup (xs ++ ys)) → Q (.ref r) H'
theorem op_catS : OpR X (binaryOp .Add) rCatS := by
  intro pins s σ H x y v u Q I rx ry h
  obtain ⟨a, b, xs, ys, rfl, rfl, ha, hb, hz, q⟩ := h
  refine op_catA pins s σ H _ _ v u Q I rx ry ⟨a, b, xs, ys, rfl, rfl, .of ha, .of hb, hz, fun e => ?_, fun _ e => ?_, fun _ _ p hp => ?_⟩
  · subst e; exact q b H (Same.refl _) hb
  · subst e; exact q a H (Same.refl _) (by rw [List.append_nil]; exact ha)
  · exact q p _ (same_new hp _) upd_same
def rSlTS : V → Option Int → Option Int → Hp → VK → Prop := fun x lo hi H Q => ∃ a xs, x = .ref a ∧ H a = some (.tup xs) ∧ ¬ (HT.sIx xs.length 0 lo = 0 ∧ HT.sIx xs.length xs.length hi = xs.length) ∧ ∀ r H', Same H H' → H' r = some (.tup (cutV xs lo hi)) → Q (.ref r) H'
theorem sl_tupS : SlR X rSlTS := by
  intro pins s σ H x v vl vu lo hi sl Q I rx hs pl pu h
  obtain ⟨a, xs, e, ha, nw, q⟩ := h
  exact sl_tup pins s σ H x v vl vu lo hi sl Q I rx hs pl pu ⟨a, xs, e, .of ha, nw, fun p hp => q p _ (same_new hp _) upd_same⟩
end
end L2
namespace L2
open PySem PySem.Spec PyProof.Rows
theorem has_of {names : List (Str × NameKind)} {cl : List (Str × Addr)} (h : names.all (fun y => match y.2 with | .cell => (cl.lookup y.1).isSome | .free => (cl.lookup y.1).isSome | _ => true) = true) :
    ∀ x, (names.lookup x = some .cell ∨ names.lookup x = some .free) → ∃ c, cl.lookup x = some c := by
  intro x hx
  have z := List.all_eq_true.mp h
  rcases hx with hx | hx
  · exact Option.isSome_iff_exists.mp (z _ (PySem.mem_of_lookup hx))
  · exact Option.isSome_iff_exists.mp (z _ (PySem.mem_of_lookup hx))
theorem cap1 {X : Cx} {scope : Scope} {cl : List (Str × Addr)} {x0 : Str} {j0 : Nat} (c0 : Cap X scope cl x0 j0) : ∀ (i : Nat) x j, [x0][i]? = some x → [j0][i]? = some j → Cap X scope cl x j
  | 0, _, _, h1, h2 => by cases h1; cases h2; exact c0
  | _ + 1, _, _, h1, _ => by cases h1
theorem cap2 {X : Cx} {scope : Scope} {cl : List (Str × Addr)} {x0 x1 : Str} {j0 j1 : Nat} (c0 : Cap X scope cl x0 j0) (c1 : Cap X scope cl x1 j1) : ∀ (i : Nat) x j, [x0, x1][i]? = some x → [j0, j1][i]? = some j → Cap X scope cl x j
  | 0, _, _, h1, h2 => by cases h1; cases h2; exact c0
  | 1, _, _, h1, h2 => by cases h1; cases h2; exact c1
  | _ + 2, _, _, h1, _ => by cases h1
end L2
namespace L2
open PySem PySem.Spec PyProof.Rows
section
variable {prog : Program} {w : World} {A : Around} {R : Result → Shared → Prop} {s : Shared}
end
def tCompI (wi : TI) (k : Nat) (js : List Nat) (g : TG) (tc : TT) (te : TE) : TE := fun σ H Q => wi σ H fun J H1 =>
  ∃ W : Nat → Nat → List V → St → Hp → Prop, (∃ m, W 0 m [] (compSt k js σ) H1) ∧ ∀ i m ys σ' H', W i m ys σ' H' →
    (J.stop i H' ∧ ∀ p, H' p = none → Q (.ref p) (upd H' p (.lst ys))) ∨
    (J.go i H' ∧ ys.length < sizeLine ∧ ∃ N : List V → St → Hp → Prop, (∀ zs σ2 H2, N zs σ2 H2 → ∃ m', m' < m ∧ W (i + 1) m' zs σ2 H2) ∧
      ∀ x H2, J.yld i H' x H2 → g x σ' H2 fun σ3 H3 => tc σ3 H3 fun b H4 => if b = true then te σ3 H4 fun v H5 => N (ys ++ [v]) σ3 H5 else N ys σ3 H4)
end L2
namespace L2
open PySem PySem.Spec PyProof.Rows
section
variable {pg : Program} {wd : World} {B : Around} {X0 : Value → Shared → Prop} {s0 : Shared}
end
def Ite (K : PySem.W.Frag) (a : Addr) : It := ⟨fun i H => ∃ xs x, SqT K H a xs ∧ xs[i]? = some x,
  fun i H v H' => ∃ T x, v = .ref T ∧ H T = none ∧ H' = upd H T (.tup [.int i, x]) ∧ ∀ xs, SqT K H a xs → xs[i]? = some x, fun i H => ∃ xs, SqT K H a xs ∧ xs.length ≤ i⟩
section
variable {X : Cx} {es : List Expr} {x1 : Nat} {pp : Pos}
def iEnum (K : PySem.W.Frag) (te : TE) : TI := fun σ H R => te σ H fun v H1 => ∃ a xs, v = .ref a ∧ SqT K H1 a xs ∧ R (Ite K a) H1
end
def CompE (K : PySem.W.Frag) (k : Nat) (js : List Nat) (g : TG) (te : TE) (σ : St) (v : V) (H1 : Hp) (Q : VK) : Prop := ∃ a xs, v = .ref a ∧ SqT K H1 a xs ∧ ∃ W : Nat → Nat → List V → St → Hp → Prop, (∃ m, W 0 m [] (compSt k js σ) H1) ∧ ∀ i m zs σ' H', W i m zs σ' H' →
    ((Ite K a).stop i H' ∧ ∀ p, H' p = none → Q (.ref p) (upd H' p (.lst zs))) ∨
    ((Ite K a).go i H' ∧ zs.length < sizeLine ∧ ∃ N : List V → St → Hp → Prop, (∀ zs σ2 H2, N zs σ2 H2 → ∃ m', m' < m ∧ W (i + 1) m' zs σ2 H2) ∧ ∀ x H2, (Ite K a).yld i H' x H2 → g x σ' H2 fun σ3 H3 => te σ3 H3 fun v H4 => N (zs ++ [v]) σ3 H4)
theorem comp_eqE {K : PySem.W.Frag} {k : Nat} {js : List Nat} {tx : TE} {g : TG} {te : TE} {σ : St} {H : Hp} {Q : VK} : tComp (iEnum K tx) k js g te σ H Q = tx σ H fun v H1 => CompE K k js g te σ v H1 Q := rfl
theorem CompE.mk {K : PySem.W.Frag} {a : Addr} {xs : List V} {k : Nat} {js : List Nat} {g : TG} {te : TE} {Q : VK} {σ : St} {H : Hp} (h1 : SqT K H a xs) (Pv : Nat → List V → St → Hp → Prop) (h0 : Pv 0 [] (compSt k js σ) H) (hl : ∀ i zs σ H, i ≤ xs.length → Pv i zs σ H → SqT K H a xs ∧ zs.length < sizeLine)
    (hs : ∀ i x zs σ H T, xs[i]? = some x → Pv i zs σ H → H T = none → g (.ref T) σ (upd H T (.tup [.int i, x])) fun σ3 H3 => te σ3 H3 fun v H4 => Pv (i + 1) (zs ++ [v]) σ3 H4) (hz : ∀ zs σ H, Pv xs.length zs σ H → ∀ p, H p = none → Q (.ref p) (upd H p (.lst zs))) :
    CompE K k js g te σ (.ref a) H Q := by
  refine ⟨a, xs, rfl, h1, fun i m zs σ H => m = xs.length - i ∧ i ≤ xs.length ∧ Pv i zs σ H, ⟨_, rfl, Nat.zero_le _, h0⟩, ?_⟩
  rintro i m zs σ H ⟨rfl, hi, p⟩
  obtain ⟨k1, k2⟩ := hl i zs σ H hi p
  by_cases hlt : i < xs.length
  · refine .inr ⟨⟨xs, _, k1, List.getElem?_eq_getElem hlt⟩, k2, Pv (i + 1), fun zs' σ' H' p' => ⟨xs.length - (i + 1), by omega, rfl, hlt, p'⟩, fun v H' yy => ?_⟩
    obtain ⟨T, x, rfl, hT, rfl, ex⟩ := yy
    exact hs i x zs σ H T (ex xs k1) p hT
  · have e : i = xs.length := by omega
    exact .inl ⟨⟨xs, k1, by omega⟩, hz zs σ H (e ▸ p)⟩
def CompEI (K : PySem.W.Frag) (k : Nat) (js : List Nat) (g : TG) (tc : TT) (te : TE) (σ : St) (v : V) (H1 : Hp) (Q : VK) : Prop := ∃ a xs, v = .ref a ∧ SqT K H1 a xs ∧ ∃ W : Nat → Nat → List V → St → Hp → Prop, (∃ m, W 0 m [] (compSt k js σ) H1) ∧ ∀ i m zs σ' H', W i m zs σ' H' →
    ((Ite K a).stop i H' ∧ ∀ p, H' p = none → Q (.ref p) (upd H' p (.lst zs))) ∨
    ((Ite K a).go i H' ∧ zs.length < sizeLine ∧ ∃ N : List V → St → Hp → Prop, (∀ zs σ2 H2, N zs σ2 H2 → ∃ m', m' < m ∧ W (i + 1) m' zs σ2 H2) ∧ ∀ x H2, (Ite K a).yld i H' x H2 → g x σ' H2 fun σ3 H3 => tc σ3 H3 fun b H4 => if b = true then te σ3 H4 fun v H5 => N (zs ++ [v]) σ3 H5 else N zs σ3 H4)
theorem comp_eqEI {K : PySem.W.Frag} {k : Nat} {js : List Nat} {tx : TE} {g : TG} {tc : TT} {te : TE} {σ : St} {H : Hp} {Q : VK} : tCompI (iEnum K tx) k js g tc te σ H Q = tx σ H fun v H1 => CompEI K k js g tc te σ v H1 Q := rfl
theorem CompEI.mk {K : PySem.W.Frag} {a : Addr} {xs : List V} {k : Nat} {js : List Nat} {g : TG} {tc : TT} {te : TE} {Q : VK} {σ : St} {H : Hp} (h1 : SqT K H a xs) (Pv : Nat → List V → St → Hp → Prop) (h0 : Pv 0 [] (compSt k js σ) H) (hl : ∀ i zs σ H, i ≤ xs.length → Pv i zs σ H → SqT K H a xs ∧ zs.length < sizeLine)
    (hs : ∀ i x zs σ H T, xs[i]? = some x → Pv i zs σ H → H T = none → g (.ref T) σ (upd H T (.tup [.int i, x])) fun σ3 H3 => tc σ3 H3 fun b H4 => if b = true then te σ3 H4 fun v H5 => Pv (i + 1) (zs ++ [v]) σ3 H5 else Pv (i + 1) zs σ3 H4) (hz : ∀ zs σ H, Pv xs.length zs σ H → ∀ p, H p = none → Q (.ref p) (upd H p (.lst zs))) :
    CompEI K k js g tc te σ (.ref a) H Q := by
  refine ⟨a, xs, rfl, h1, fun i m zs σ H => m = xs.length - i ∧ i ≤ xs.length ∧ Pv i zs σ H, ⟨_, rfl, Nat.zero_le _, h0⟩, ?_⟩
  rintro i m zs σ H ⟨rfl, hi, p⟩
  obtain ⟨k1, k2⟩ := hl i zs σ H hi p
  by_cases hlt : i < xs.length
  · refine .inr ⟨⟨xs, _, k1, List.getElem?_eq_getElem hlt⟩, k2, Pv (i + 1), fun zs' σ' H' p' => ⟨xs.length - (i + 1), by omega, rfl, hlt, p'⟩, fun v H' yy => ?_⟩
    obtain ⟨T, x, rfl, hT, rfl, ex⟩ := yy
    exact hs i x zs σ H T (ex xs k1) p hT
  · have e : i = xs.length := by omega
    exact .inl ⟨⟨xs, k1, by omega⟩, hz zs σ H (e ▸ p)⟩
end L2
namespace L2
open PySem PySem.Spec PyProof.Rows PySem.W PySem.Calls
def catchN (K : PySem.W.Frag) : List (Addr × TS) → Value → (TS → Prop) → Prop
  | [], _, _ => False
  | (C, ts) :: r, c, k => (PySem.W.exmOne K c (.ref C) = some true ∧ k ts) ∨ (PySem.W.exmOne K c (.ref C) = some false ∧ catchN K r c k)
def caughtN (K : PySem.W.Frag) (cs : List (Addr × TS)) (D : Ends) : St → XK := fun σ1 c _ H1 => catchN K cs c fun ts => ts D σ1 H1
def tTryN (K : PySem.W.Frag) (cs : List (Addr × TS)) (tb : (St → XK) → TS) : TS := fun D σ H => tb (caughtN K cs D) D σ H
inductive Clauses (X : Cx) : List ExceptHandler → List (Addr × TS) → Prop
  | nil : Clauses X [] []
  | cons {x : Str} {C : Addr} {b₀ : Stmt} {suite : List Stmt} {np hpos : Pos} {ts : TS} {r : List ExceptHandler} {tr : List (Addr × TS)} (hg : Gl X x) (hn : PySem.W.nsIn X.K mainGlobals x = some (some (.ref C)))
      (hs : ∀ (a : Addr) (pn : List (Addr × Obj)), PSs (X.suite a pn) (b₀ :: suite) ts) (hr : Clauses X r tr) (hd : (x == ("__debug__" : Str)) = false) : Clauses X (.ExceptHandler (some (.Name x np)) none (b₀ :: suite) hpos :: r) ((C, ts) :: tr)
theorem ps_tryN {X : Cx} {body : List Stmt} {h₀ : ExceptHandler} {hl : List ExceptHandler} {cs : List (Addr × TS)} {pos : Pos} {tb : (St → XK) → TS} (hstk : X.stack = X.env :: X.outer ∧ X.env.frame = some X.env.locals)
    (hb : ∀ (xe : Value → Shared → Prop) (pn : List (Addr × Obj)) (EE : St → XK), (∀ σ, PassesAt (CX1 X.prog X.w) (X.more xe pn) (EE σ) σ) → PSs (X.more xe pn) body (tb EE)) (hc : Clauses X (h₀ :: hl) cs) :
    PS X (.Try body (h₀ :: hl) [] [] pos) (tTryN X.K cs tb) := by
  intro pins s σ H D I h
  refine wpAny_Try_except ?_
  generalize hXE : (fun e s₁ => wpAny (model X.prog X.w) X.A (noteFrame e X.env) (fun _ s₂ => wpAny (model X.prog X.w) X.A (setFlight e none) (fun _ s₃ => wpAny (model X.prog X.w) X.A (handleBy e X.env (h₀ :: hl)) (SP X pins D) X.xe s₃) X.xe s₂) X.xe s₁ : Value → Shared → Prop) = XE
  have toY : ∀ {σ' : St} {H' : Hp} {s' : Shared}, Inv X pins σ' H' s' → Inv (X.more XE (X.pn ++ pins)) [] σ' H' s' := fun J => ⟨J.ok.more _ _, J.os, J.bare, J.base, J.loc, J.cell, J.free, J.freeC, fun p hp => J.pin p (by simpa using hp), J.hok, J.len⟩
  have ofY : ∀ {σ' : St} {H' : Hp} {s' : Shared} {pp : List (Addr × Obj)}, Inv (X.more XE (X.pn ++ pins)) pp σ' H' s' → Inv X pins σ' H' s' := fun J => ⟨I.ok, J.os, J.bare, J.base, J.loc, J.cell, J.free, J.freeC, fun p hp => J.pin p (List.mem_append_left _ hp), J.hok, J.len⟩
  have body_ok := hb XE (X.pn ++ pins) (caughtN X.K cs D) ?_ [] s σ H D (toY I) h
  · refine thn body_ok fun fl s' q => ?_
    cases fl with
    | next => obtain ⟨σ', H', J, z⟩ := q; exact wpAny_execs_nil ⟨σ', H', ofY J, z⟩
    | brk => obtain ⟨σ', H', J, z⟩ := q; exact ⟨σ', H', ofY J, z⟩
    | cont => obtain ⟨σ', H', J, z⟩ := q; exact ⟨σ', H', ofY J, z⟩
    | ret u => obtain ⟨v, σ', H', J, r, z⟩ := q; exact ⟨v, σ', H', ofY J, r, z⟩
  intro σ1 pins1 H1 s1 e s' I1 hx
  obtain ⟨a, C', a0, H', B, rfl, os, bare, fl, inB, thB, un, okB, hcatch⟩ := hx
  have hcatch : catchN X.K cs (.ref C') fun ts => ts D σ1 H' := hcatch
  subst hXE
  have fl : Heap.FlyingW B (X.env :: X.outer) a (.ref C') a0 s'.heap := by
    have z : Heap.FlyingW B X.stack a (.ref C') a0 s'.heap := fl
    rw [hstk.1] at z; exact z
  have hfr : X.A.frames = some (X.env :: X.outer) := by rw [I.ok.frames, hstk.1]
  have at_ : ∀ h2 : Heap, Heap.FlyingW B (X.env :: X.outer) a (.ref C') a0 h2 → s'.heap.UpToSlots h2 → ∀ t2 : Nat, Inv X pins σ1 H' { s' with heap := h2, toks := t2 } := fun h2 f2 u2 t2 => by
    have J1 : Inv X pins σ1 H1 s1 := ofY I1
    have slot : ∀ b o, s1.heap.get? b = some o → H1 b = none → b ∈ frs X.stack → ∃ sl, h2.get? b = some { o with slots := sl } := fun b o e nn hb => by
      obtain ⟨sl2, e2⟩ := un.slot b o e nn hb (by simp)
      obtain ⟨_, o3, e3, nf⟩ := J1.stack.mem hb
      rw [e] at e3; cases e3
      obtain ⟨sl3, e4⟩ := u2 b _ e2 nf
      exact ⟨sl3, e4⟩
    refine J1.call' (s' := { s' with heap := h2, toks := t2 }) (ch := []) os ⟨fun b o e nn hb _ => f2.1 _ _ (inB b o e nn hb), fun b o e nn hb _ => slot b o e nn hb, un.free, fun b o e _ => ?_, un.tups, un.frzs, un.tbls⟩ (okB.kept f2.1) bare (fun b z => nomatch z)
    by_cases hb : b ∈ frs X.stack
    · obtain ⟨sl, q⟩ := slot b o e (J1.stkFree b hb) hb
      exact ⟨_, q⟩
    · obtain ⟨o', q⟩ := thB b o e hb
      exact ⟨o', f2.1 _ _ q⟩
  refine wpAny_looks_onW hfr hstk.2 fl fun h4 held4 up4 => ?_
  refine wpAny_landsW held4 fun h5 fl5 up5 => ?_
  have J5 := at_ h5 fl5 (up4.trans up5) s'.toks
  obtain ⟨oe5, ve5, he5, hc5, hd5, _⟩ := fl5.first
  have toZ : ∀ {σ' : St} {H' : Hp} {s' : Shared}, Inv X pins σ' H' s' → Inv (X.suite a (X.pn ++ pins)) [] σ' H' s' := fun J => ⟨J.ok.suite _ _, J.os, J.bare, J.base, J.loc, J.cell, J.free, J.freeC, fun p hp => J.pin p (by simpa using hp), J.hok, J.len⟩
  have ofZ : ∀ {σ' : St} {H' : Hp} {s' : Shared}, Inv (X.suite a (X.pn ++ pins)) [] σ' H' s' → Inv X pins σ' H' s' := fun J => ⟨I.ok, J.os, J.bare, J.base, J.loc, J.cell, J.free, J.freeC, fun p hp => J.pin p (List.mem_append_left _ hp), J.hok, J.len⟩
  have LT : Looks (model X.prog X.w) h5 (typeOf (.ref a)) (.ref C') := hc5 ▸ (Looks.ld he5).andThen .now
  have all : ∀ (hs' : List ExceptHandler) (cs' : List (Addr × TS)), Clauses X hs' cs' → (catchN X.K cs' (.ref C') fun ts => ts D σ1 H') → wpAny (model X.prog X.w) X.A (handleBy (.ref a) X.env hs') (SP X pins D) X.xe { s' with heap := h5 } := by
    intro hs' cs' hcl
    induction hcl with
    | nil => intro z; exact z.elim
    | cons hg hn hs hr hd ih =>
      intro z
      have bnd := PySem.W.mg_of J5.ok.mod.kin J5.ok.mod.glob hn
      refine wpAny_handleBy_cons (codeAny_handlers_test ?_) (by intro q; cases q)
      refine ld_glob (X := X.suite a (X.pn ++ pins)) (toZ J5) hg bnd ?_ hd
      rcases z with ⟨z1, z2⟩ | ⟨z1, z2⟩
      · refine (PySem.W.exm_one (M := model X.prog X.w) J5.kIn LT z1).here ?_
        refine codeAny_handlers_suite ?_
        refine lands_againW fl5 fun h6 fl6 up6 => ?_
        have J6 := at_ h6 fl6 ((up4.trans up5).trans up6) s'.toks
        refine wpAny_mono (hs a (X.pn ++ pins) [] _ _ _ D (toZ J6) z2) (fun fl s9 q => ?_) fun _ _ z => z.elim
        cases fl with
        | next => obtain ⟨σ9, H9, J9, z⟩ := q; exact ⟨_, H9, ofZ J9, z⟩
        | brk => obtain ⟨σ9, H9, J9, z⟩ := q; exact ⟨_, H9, ofZ J9, z⟩
        | cont => obtain ⟨σ9, H9, J9, z⟩ := q; exact ⟨_, H9, ofZ J9, z⟩
        | ret u => obtain ⟨v, σ9, H9, J9, r, z⟩ := q; exact ⟨v, _, H9, ofZ J9, r, z⟩
      · refine (PySem.W.exm_one (M := model X.prog X.w) J5.kIn LT z1).here ?_
        exact ih z2
  exact all _ _ hc hcatch
end L2
namespace L2
open PySem PySem.Spec PyProof.Rows
section
variable {X : Cx}
def rNeT (K : PySem.W.Frag) : R2 := fun x y H Q => ∃ a b xs ys, x = .ref a ∧ y = .ref b ∧ SqT K H a xs ∧ SqT K H b ys ∧ xs.all flatV = true ∧ ys.all flatV = true ∧ Q (.bl (!eqVs xs ys)) H
theorem op_neT (hu : X.A.units < cLine) : OpR X (compareOp .NotEq) (rNeT X.K) := by
  intro pins s σ H x y v u Q I rx ry h
  obtain ⟨a, b, xs, ys, rfl, rfl, ha, hb, f1, f2, q⟩ := h
  cases rx
  cases ry
  obtain ⟨us, r1, p1, _⟩ := I.tuple ha
  obtain ⟨ws, r2, p2, _⟩ := I.tuple hb
  refine SeqAt.RcNeAt.tuples (show s.heap.IsTuple a us.toArray from p1) (show s.heap.IsTuple b ws.toArray from p2) (e := eqAtI xs ys) hu (eqAtI_ok r1 r2 f1 f2) _ _ _ _ ?_
  have e1 : us.toArray.size = xs.length := by simp [r1.length]
  have e2 : ws.toArray.size = ys.length := by simp [r2.length]
  rw [e1, e2]
  have z : ((List.range (min xs.length ys.length)).all (eqAtI xs ys) && xs.length == ys.length) = eqVs xs ys := by
    by_cases hl : xs.length = ys.length
    · rw [← hl, Nat.min_self, eqVs_all hl]; simp
    · rw [eqVs_len hl]; simp [hl]
  rw [z]
  exact ⟨.bl _, H, I, rfl, q⟩
def rNeL (K : PySem.W.Frag) : R2 := fun x y H Q => ∃ a b xs ys, x = .ref a ∧ y = .ref b ∧ SqL K H a xs ∧ SqL K H b ys ∧ xs.all flatV = true ∧ ys.all flatV = true ∧ Q (.bl (!eqVs xs ys)) H
theorem op_neL (hu : X.A.units < cLine) : OpR X (compareOp .NotEq) (rNeL X.K) := by
  intro pins s σ H x y v u Q I rx ry h
  obtain ⟨a, b, xs, ys, rfl, rfl, ha, hb, f1, f2, q⟩ := h
  cases rx
  cases ry
  obtain ⟨us, r1, p1, _⟩ := I.list ha
  obtain ⟨ws, r2, p2, _⟩ := I.list hb
  by_cases hl : xs.length = ys.length
  · refine SeqAt.RcNeAt.lists p1.isList p2.isList (e := eqAtI xs ys) (by simp [← r1.length, ← r2.length, hl]) hu (eqAtI_ok r1 r2 f1 f2) _ _ _ _ ?_
    have e : us.toArray.size = xs.length := by simp [r1.length]
    rw [e, eqVs_all hl]
    exact ⟨.bl _, H, I, rfl, q⟩
  · refine SeqAt.RcNeAt.lists_lengths p1.isList p2.isList (by simp [← r1.length, ← r2.length, hl]) hu _ _ _ _ ?_
    rw [eqVs_len hl] at q
    exact ⟨.bl _, H, I, rfl, q⟩
end
theorem cl_sub1 {cells : List (Str × Addr)} {y : Str} {a : Addr} (h : cells.lookup y = some a) : ∀ x c, [(y, a)].lookup x = some c → cells.lookup x = some c := fun x c e => by
  cases List.mem_singleton.mp (PySem.mem_of_lookup e); exact h
theorem cl_sub2 {cells : List (Str × Addr)} {y z : Str} {a b : Addr} (h : cells.lookup y = some a) (h2 : cells.lookup z = some b) : ∀ x c, [(y, a), (z, b)].lookup x = some c → cells.lookup x = some c := fun x c e => by
  rcases List.mem_cons.mp (PySem.mem_of_lookup e) with q | q
  · cases q; exact h
  · cases List.mem_singleton.mp q; exact h2
end L2
namespace HT
open PySem PySem.Spec PyProof.Rows L2
theorem whole_tup {prog : Program} {w : World} {A : Around} {E : Value → Shared → Prop} {s : Shared} {t sl : Addr} {its : Array Value} {vl vu : Value} {lo hi : Option Int} {R : Value → Shared → Prop} (ht : IsTup s.heap t its) (hs : s.heap.IsSliceOf sl vl vu .none) (pl : IsPart vl lo) (pu : IsPart vu hi)
    (h0 : sIx its.size 0 lo = 0) (h1 : sIx its.size its.size hi = its.size) (h : R (.ref t) s) : wpAny (model prog w) A (getItem (.ref t) (.ref sl)) R E s := by
  obtain ⟨os, hos, hcs, hds⟩ := id hs
  have hTs : s.TypeIs (.ref sl) "slice" := ⟨os, hos, hcs⟩
  unfold getItem
  try with_reducible refine wpAny_holding ?_
  first | refine wpAny_bind (wpAny_pure ?_) | skip
  refine wpAny_bind (wpAny_sequenceKey ht.typeIs (by decide) ?_)
  refine wpAny_bind (wpAny_callSpecial?_slot (name := Str.ofString "__getitem__") ht.typeIs PyProof.Rows.slot_tuple_getitem (wpAny_call_entry PyProof.Rows.slot_tuple_getitem ht.typeIs entry_tuple_getitem ?_ (args_tuple_getitem _ _)))
  show wpAny _ _ (Builtin.Tuple.tupleItemsOf (.ref t) >>= _) _ _ s
  refine wpAny_bind (tupleItemsOf_ ht ?_)
  refine wpAny_bind (wpAny_typeOf hTs ?_)
  rw [if_pos (by decide)]
  refine wpAny_bind (sliceApplied_gen hs pl pu ?_)
  show wpAny _ _ (if (((sIx its.size 0 lo : Nat) : Int) == 0 && (1 : Int) == 1 && (sIx its.size its.size hi - sIx its.size 0 lo) == its.size) = true then _ else _) _ _ s
  rw [if_pos (by rw [h0, h1]; simp)]
  unfold Builtin.Tuple.tupleIsExact
  exact wpAny_bind (wpAny_bind (wpAny_typeOf ht.typeIs (wpAny_pure (wpAny_bind (wpAny_rule (wpAny_pure ⟨_, rfl, wpAny_pure h⟩))))))
end HT
namespace L2
open PySem PySem.Spec PyProof.Rows
section
variable {X : Cx}
def rSlTA : V → Option Int → Option Int → Hp → VK → Prop := fun x lo hi H Q => ∃ a xs, x = .ref a ∧ H a = some (.tup xs) ∧ ∀ r H', Same H H' → H' r = some (.tup (cutV xs lo hi)) → Q (.ref r) H'
theorem sl_tupA : SlR X rSlTA := by
  intro pins s σ H x v vl vu lo hi sl Q I rx hs pl pu h
  obtain ⟨a, xs, rfl, ha, q⟩ := h
  by_cases c : HT.sIx xs.length 0 lo = 0 ∧ HT.sIx xs.length xs.length hi = xs.length
  · cases rx
    obtain ⟨its, r, ht, hz⟩ := I.tuple (show SqT X.K H a xs from .of ha)
    have hlen : its.toArray.size = xs.length := by rw [List.size_toArray]; exact r.length.symm
    refine ⟨"tuple", _, PyProof.Rows.slot_tuple_getitem.lookup, ht.typeIs, HT.whole_tup ht hs pl pu (by rw [hlen]; exact c.1) (by rw [hlen]; exact c.2) ⟨.ref a, H, I, rfl, q a H (Same.refl _) ?_⟩⟩
    unfold cutV
    rw [c.1, c.2, List.drop_zero, Nat.sub_zero, List.take_length]
    exact ha
  · exact sl_tupS pins s σ H _ v vl vu lo hi sl Q I rx hs pl pu ⟨a, xs, rfl, ha, c, q⟩
end
end L2
namespace L2
open PySem PySem.Spec PyProof.Rows
def okS (k : Nat) (x : Str) : Prop := x.length ≤ k ∧ ∀ c ∈ x.cps.toList, c < 1000
theorem okS.mono {k m : Nat} {x : Str} (h : okS k x) (l : k ≤ m) : okS m x := ⟨Nat.le_trans h.1 l, h.2⟩
section
variable {X : Cx}
def tFR (t1 t2 : TE) : TE := fun σ H Q => t1 σ H fun x H1 => ∃ a, x = .str a ∧ okS 1000 a ∧ t2 σ H1 fun y H2 => ∃ b, y = .str b ∧ okS 1000 b ∧ ∀ z, Q (.str z) H2
def rSlStr : V → Option Int → Option Int → Hp → VK → Prop := fun x lo hi H Q => ∃ z, x = .str z ∧ z.length ≤ 1000 ∧ ∀ y : Str, y.length ≤ z.length → (∀ c ∈ y.cps.toList, c ∈ z.cps.toList) → Q (.str y) H
def rUpper : V → List V → Hp → VK → Prop := fun x xs H Q => ∃ z, x = .str z ∧ xs = [] ∧ okS 1000 ⟨placed z fun _ c => Unicode.upperOf c⟩ ∧ Q (.str ⟨placed z fun _ c => Unicode.upperOf c⟩) H
def rJoin (K : PySem.W.Frag) : V → List V → Hp → VK → Prop := fun x xs H Q => ∃ (z : Str) (l : Addr) (ys : List Str), x = .str z ∧ z.length = 0 ∧ xs = [.ref l] ∧ SqL K H l (ys.map V.str) ∧ ys.length ≤ 100 ∧ (∀ y ∈ ys, okS 10 y) ∧ ∀ y : Str, okS 1000 y → Q (.str y) H
end
end L2
namespace L2
open PySem PySem.Spec PyProof.Rows
def Itel (K : PySem.W.Frag) (a : Addr) : It := ⟨fun i H => ∃ xs x, SqL K H a xs ∧ xs[i]? = some x,
  fun i H v H' => ∃ T x, v = .ref T ∧ H T = none ∧ H' = upd H T (.tup [.int i, x]) ∧ ∀ xs, SqL K H a xs → xs[i]? = some x, fun i H => ∃ xs, SqL K H a xs ∧ xs.length ≤ i⟩
section
variable {X : Cx} {es : List Expr} {x1 : Nat} {pp : Pos}
def iEnumL (K : PySem.W.Frag) (te : TE) : TI := fun σ H R => te σ H fun v H1 => ∃ a xs, v = .ref a ∧ SqL K H1 a xs ∧ R (Itel K a) H1
end
def LoopEL (K : PySem.W.Frag) (g : TG) (tb : TS) (D : Ends) (σ : St) (v : V) (H1 : Hp) : Prop := ∃ a xs, v = .ref a ∧ SqL K H1 a xs ∧ ∃ W : Nat → Nat → St → Hp → Prop, (∃ m, W 0 m σ H1) ∧ ∀ i m σ H, W i m σ H →
  ((Itel K a).stop i H ∧ D.nx σ H) ∨ ((Itel K a).go i H ∧ ∃ N : St → Hp → Prop, (∀ σ' H', N σ' H' → ∃ m', m' < m ∧ W (i + 1) m' σ' H') ∧ ∀ x H', (Itel K a).yld i H x H' → g x σ H' fun σ2 H2 => tb { D with nx := N, ct := N, bk := D.nx } σ2 H2)
theorem for_eqEL {K : PySem.W.Frag} {te : TE} {g : TG} {tb : TS} {D : Ends} {σ : St} {H : Hp} : tFor (iEnumL K te) g tb D σ H = te σ H fun v H1 => LoopEL K g tb D σ v H1 := rfl
theorem LoopEL.mk {K : PySem.W.Frag} {a : Addr} {xs : List V} {g : TG} {tb : TS} {D : Ends} {σ : St} {H : Hp} (h1 : SqL K H a xs) (Pv : Nat → St → Hp → Prop) (h0 : Pv 0 σ H) (hl : ∀ i σ H, i ≤ xs.length → Pv i σ H → SqL K H a xs)
    (hs : ∀ i x σ H T, xs[i]? = some x → Pv i σ H → H T = none → g (.ref T) σ (upd H T (.tup [.int i, x])) fun σ2 H2 => tb { D with nx := Pv (i + 1), ct := Pv (i + 1), bk := D.nx } σ2 H2) (hd : ∀ σ H, Pv xs.length σ H → D.nx σ H) :
    LoopEL K g tb D σ (.ref a) H := by
  refine ⟨a, xs, rfl, h1, fun i m σ H => m = xs.length - i ∧ i ≤ xs.length ∧ Pv i σ H, ⟨_, rfl, Nat.zero_le _, h0⟩, ?_⟩
  rintro i m σ H ⟨rfl, hi, p⟩
  have k1 := hl i σ H hi p
  by_cases hlt : i < xs.length
  · refine .inr ⟨⟨xs, _, k1, List.getElem?_eq_getElem hlt⟩, Pv (i + 1), fun σ' H' p' => ⟨xs.length - (i + 1), by omega, rfl, hlt, p'⟩, fun v H' yy => ?_⟩
    obtain ⟨T, x, rfl, hT, rfl, ex⟩ := yy
    exact hs i x σ H T (ex xs k1) p hT
  · have e : i = xs.length := by omega
    exact .inl ⟨⟨xs, k1, by omega⟩, hd σ H (e ▸ p)⟩
end L2
namespace L2
open PySem PySem.Spec PyProof.Rows
def Itx (x : Str) : It := ⟨fun i _ => i < x.cps.size, fun i H v H' => H' = H ∧ ∃ c, x.cps[i]? = some c ∧ v = .str ⟨#[c]⟩, fun i _ => x.cps.size ≤ i⟩
section
variable {X : Cx} {tg : Expr}
def iStr (tl : TE) : TI := fun σ H R => tl σ H fun x H1 => ∃ z, x = .str z ∧ R (Itx z) H1
end
def LoopX (g : TG) (tb : TS) (D : Ends) (σ : St) (v : V) (H1 : Hp) : Prop := ∃ z, v = .str z ∧ ∃ W : Nat → Nat → St → Hp → Prop, (∃ m, W 0 m σ H1) ∧ ∀ i m σ H, W i m σ H →
  ((Itx z).stop i H ∧ D.nx σ H) ∨ ((Itx z).go i H ∧ ∃ N : St → Hp → Prop, (∀ σ' H', N σ' H' → ∃ m', m' < m ∧ W (i + 1) m' σ' H') ∧ ∀ x H', (Itx z).yld i H x H' → g x σ H' fun σ2 H2 => tb { D with nx := N, ct := N, bk := D.nx } σ2 H2)
theorem for_eqX {te : TE} {g : TG} {tb : TS} {D : Ends} {σ : St} {H : Hp} : tFor (iStr te) g tb D σ H = te σ H fun v H1 => LoopX g tb D σ v H1 := rfl
theorem LoopX.mk {z : Str} {g : TG} {tb : TS} {D : Ends} {σ : St} {H : Hp} (Pv : Nat → St → Hp → Prop) (h0 : Pv 0 σ H)
    (hs : ∀ i c σ H, z.cps[i]? = some c → Pv i σ H → g (.str ⟨#[c]⟩) σ H fun σ2 H2 => tb { D with nx := Pv (i + 1), ct := Pv (i + 1), bk := D.nx } σ2 H2) (hd : ∀ σ H, Pv z.cps.size σ H → D.nx σ H) :
    LoopX g tb D σ (.str z) H := by
  refine ⟨z, rfl, fun i m σ H => m = z.cps.size - i ∧ i ≤ z.cps.size ∧ Pv i σ H, ⟨_, rfl, Nat.zero_le _, h0⟩, ?_⟩
  rintro i m σ H ⟨rfl, hi, p⟩
  by_cases hlt : i < z.cps.size
  · refine .inr ⟨hlt, Pv (i + 1), fun σ' H' p' => ⟨z.cps.size - (i + 1), by omega, rfl, hlt, p'⟩, fun v H' yy => ?_⟩
    obtain ⟨rfl, c, ec, rfl⟩ := yy
    exact hs i c σ H' ec p
  · have e : i = z.cps.size := by omega
    exact .inl ⟨by show z.cps.size ≤ i; omega, hd σ H (e ▸ p)⟩
def CompX (k : Nat) (js : List Nat) (g : TG) (te : TE) (σ : St) (v : V) (H1 : Hp) (Q : VK) : Prop := ∃ z, v = .str z ∧ ∃ W : Nat → Nat → List V → St → Hp → Prop, (∃ m, W 0 m [] (compSt k js σ) H1) ∧ ∀ i m ys σ' H', W i m ys σ' H' →
    ((Itx z).stop i H' ∧ ∀ p, H' p = none → Q (.ref p) (upd H' p (.lst ys))) ∨
    ((Itx z).go i H' ∧ ys.length < sizeLine ∧ ∃ N : List V → St → Hp → Prop, (∀ zs σ2 H2, N zs σ2 H2 → ∃ m', m' < m ∧ W (i + 1) m' zs σ2 H2) ∧ ∀ x H2, (Itx z).yld i H' x H2 → g x σ' H2 fun σ3 H3 => te σ3 H3 fun v H4 => N (ys ++ [v]) σ3 H4)
theorem comp_eqX {k : Nat} {js : List Nat} {ti : TE} {g : TG} {te : TE} {σ : St} {H : Hp} {Q : VK} : tComp (iStr ti) k js g te σ H Q = ti σ H fun x H1 => CompX k js g te σ x H1 Q := rfl
theorem CompX.mk {z : Str} {k : Nat} {js : List Nat} {g : TG} {te : TE} {Q : VK} {σ : St} {H : Hp} (Pv : Nat → List V → St → Hp → Prop) (h0 : Pv 0 [] (compSt k js σ) H)
    (hs : ∀ i c ys σ H, z.cps[i]? = some c → Pv i ys σ H → ys.length < sizeLine ∧ g (.str ⟨#[c]⟩) σ H fun σ3 H3 => te σ3 H3 fun v H4 => Pv (i + 1) (ys ++ [v]) σ3 H4) (hd : ∀ ys σ H, Pv z.cps.size ys σ H → ∀ p, H p = none → Q (.ref p) (upd H p (.lst ys))) :
    CompX k js g te σ (.str z) H Q := by
  refine ⟨z, rfl, fun i m ys σ H => m = z.cps.size - i ∧ i ≤ z.cps.size ∧ Pv i ys σ H, ⟨_, rfl, Nat.zero_le _, h0⟩, ?_⟩
  rintro i m ys σ H ⟨rfl, hi, p⟩
  by_cases hlt : i < z.cps.size
  · refine .inr ⟨hlt, (hs i (z.cps[i]'hlt) ys σ H (Array.getElem?_eq_getElem hlt) p).1, Pv (i + 1), fun zs σ' H' p' => ⟨z.cps.size - (i + 1), by omega, rfl, hlt, p'⟩, fun v H' yy => ?_⟩
    obtain ⟨rfl, c, ec, rfl⟩ := yy
    exact (hs i c ys σ H' ec p).2
  · have e : i = z.cps.size := by omega
    exact .inl ⟨by show z.cps.size ≤ i; omega, hd ys σ H (e ▸ p)⟩
section
variable {X : Cx}
def findI (x y : Str) : Int := match Builtin.Str.occurrences x y 0 x.length 1 with | i :: _ => (i : Int) | [] => -1
def rFind : V → List V → Hp → VK → Prop := fun x xs H Q => ∃ z y, x = .str z ∧ xs = [.str y] ∧ Q (.int (findI z y)) H
end
end L2
namespace L2
open PySem PySem.Spec PyProof.Rows
section
variable {X : Cx}
def rCatL (K : PySem.W.Frag) : R2 := fun x y H Q => ∃ l b xs zs, x = .ref l ∧ y = .ref b ∧ SqL K H l xs ∧ SqL K H b zs ∧ xs.length + zs.length ≤ sizeLine ∧ ∀ p, H p = none → Q (.ref p) (upd H p (.lst (xs ++ zs)))
theorem op_catL : OpR X (binaryOp .Add) (rCatL X.K) := by
  intro pins s σ H x y v u Q I rx ry h
  obtain ⟨l, b, xs, zs, rfl, rfl, hH, hB, hz, q⟩ := h
  cases rx
  cases ry
  obtain ⟨its, r, ⟨⟨c1, d1, z1, l1⟩, n, e, hc, hd, hs⟩, _⟩ := I.list hH
  obtain ⟨its2, r2, ⟨⟨c2, d2, z2, l2⟩, n2, e2, hc2, hd2, hs2⟩, _⟩ := I.list hB
  simp only at hc hd hs hc2 hd2 hs2
  subst hc hd hs hc2 hd2 hs2
  have a1 := r.length
  have a2 := r2.length
  have ea : its.toArray ++ its2.toArray = (its ++ its2).toArray := by simp
  refine concat_meets ⟨_, e, rfl⟩ ⟨_, e2, rfl⟩ noFill_list_add seq_list_add F.slot_list_add F.entry_list_add (F.args_list_add_2 _ _) (list_addW l b its.toArray its2.toArray n n2 _ _ _ _ (by rw [List.size_toArray, List.size_toArray]; omega)) ⟨e, e2, ?_⟩
  rw [ea]
  exact ⟨.ref _, _, I.lnew (t' := s.toks) (r.append r2) (by rw [List.length_append]; omega), rfl, q _ I.fresh⟩
end
end L2
namespace L2
open PySem PySem.Spec PyProof.Rows
section
variable {pg : Program} {wd : World} {B : Around} {X0 : Value → Shared → Prop} {s0 : Shared}
end
def ItzL (K : PySem.W.Frag) (a b : Addr) : It := ⟨fun i H => ∃ xs ys x y, SqL K H a xs ∧ SqL K H b ys ∧ xs[i]? = some x ∧ ys[i]? = some y,
  fun i H v H' => ∃ T x y, v = .ref T ∧ H T = none ∧ H' = upd H T (.tup [x, y]) ∧ ∀ xs ys, SqL K H a xs → SqL K H b ys → xs[i]? = some x ∧ ys[i]? = some y, fun i H => ∃ xs ys, SqL K H a xs ∧ SqL K H b ys ∧ (xs.length ≤ i ∨ ys.length ≤ i)⟩
section
variable {X : Cx} {es : List Expr} {x1 : Nat} {pp : Pos}
def iZipL (K : PySem.W.Frag) (ta : TA) : TI := fun σ H R => ta σ H fun vs H1 => ∃ a b xs ys, vs = [.ref a, .ref b] ∧ SqL K H1 a xs ∧ SqL K H1 b ys ∧ R (ItzL K a b) H1
end
def LoopZL (K : PySem.W.Frag) (g : TG) (tb : TS) (D : Ends) (σ : St) (vs : List V) (H1 : Hp) : Prop := ∃ a b xs ys, vs = [.ref a, .ref b] ∧ SqL K H1 a xs ∧ SqL K H1 b ys ∧ ∃ W : Nat → Nat → St → Hp → Prop, (∃ m, W 0 m σ H1) ∧ ∀ i m σ H, W i m σ H →
  ((ItzL K a b).stop i H ∧ D.nx σ H) ∨ ((ItzL K a b).go i H ∧ ∃ N : St → Hp → Prop, (∀ σ' H', N σ' H' → ∃ m', m' < m ∧ W (i + 1) m' σ' H') ∧ ∀ x H', (ItzL K a b).yld i H x H' → g x σ H' fun σ2 H2 => tb { D with nx := N, ct := N, bk := D.nx } σ2 H2)
theorem for_eqZL {K : PySem.W.Frag} {ta : TA} {g : TG} {tb : TS} {D : Ends} {σ : St} {H : Hp} : tFor (iZipL K ta) g tb D σ H = ta σ H fun vs H1 => LoopZL K g tb D σ vs H1 := rfl
theorem LoopZL.mk {K : PySem.W.Frag} {a b : Addr} {xs ys : List V} {g : TG} {tb : TS} {D : Ends} {σ : St} {H : Hp} (n : Nat) (hn : n = min xs.length ys.length) (h1 : SqL K H a xs) (h2 : SqL K H b ys) (Pv : Nat → St → Hp → Prop) (h0 : Pv 0 σ H) (hl : ∀ i σ H, i ≤ n → Pv i σ H → SqL K H a xs ∧ SqL K H b ys)
    (hs : ∀ i x y σ H T, i < n → xs[i]? = some x → ys[i]? = some y → Pv i σ H → H T = none → g (.ref T) σ (upd H T (.tup [x, y])) fun σ2 H2 => tb { D with nx := Pv (i + 1), ct := Pv (i + 1), bk := D.nx } σ2 H2) (hd : ∀ σ H, Pv n σ H → D.nx σ H) :
    LoopZL K g tb D σ [.ref a, .ref b] H := by
  subst hn
  refine ⟨a, b, xs, ys, rfl, h1, h2, fun i m σ H => m = min xs.length ys.length - i ∧ i ≤ min xs.length ys.length ∧ Pv i σ H, ⟨_, rfl, Nat.zero_le _, h0⟩, ?_⟩
  rintro i m σ H ⟨rfl, hi, p⟩
  obtain ⟨k1, k2⟩ := hl i σ H hi p
  by_cases hlt : i < min xs.length ys.length
  · have l1 : i < xs.length := by omega
    have l2 : i < ys.length := by omega
    refine .inr ⟨⟨xs, ys, _, _, k1, k2, List.getElem?_eq_getElem l1, List.getElem?_eq_getElem l2⟩, Pv (i + 1), fun σ' H' p' => ⟨min xs.length ys.length - (i + 1), by omega, rfl, hlt, p'⟩, fun v H' yy => ?_⟩
    obtain ⟨T, x, y, rfl, hT, rfl, ex⟩ := yy
    obtain ⟨ex1, ex2⟩ := ex xs ys k1 k2
    exact hs i x y σ H T hlt ex1 ex2 p hT
  · have e : i = min xs.length ys.length := by omega
    exact .inl ⟨⟨xs, ys, k1, k2, by omega⟩, hd σ H (e ▸ p)⟩
def CompZL (K : PySem.W.Frag) (k : Nat) (js : List Nat) (g : TG) (te : TE) (σ : St) (vs : List V) (H1 : Hp) (Q : VK) : Prop := ∃ a b xs ys, vs = [.ref a, .ref b] ∧ SqL K H1 a xs ∧ SqL K H1 b ys ∧ ∃ W : Nat → Nat → List V → St → Hp → Prop, (∃ m, W 0 m [] (compSt k js σ) H1) ∧ ∀ i m zs σ' H', W i m zs σ' H' →
    ((ItzL K a b).stop i H' ∧ ∀ p, H' p = none → Q (.ref p) (upd H' p (.lst zs))) ∨
    ((ItzL K a b).go i H' ∧ zs.length < sizeLine ∧ ∃ N : List V → St → Hp → Prop, (∀ zs σ2 H2, N zs σ2 H2 → ∃ m', m' < m ∧ W (i + 1) m' zs σ2 H2) ∧ ∀ x H2, (ItzL K a b).yld i H' x H2 → g x σ' H2 fun σ3 H3 => te σ3 H3 fun v H4 => N (zs ++ [v]) σ3 H4)
theorem comp_eqZL {K : PySem.W.Frag} {k : Nat} {js : List Nat} {ta : TA} {g : TG} {te : TE} {σ : St} {H : Hp} {Q : VK} : tComp (iZipL K ta) k js g te σ H Q = ta σ H fun vs H1 => CompZL K k js g te σ vs H1 Q := rfl
theorem CompZL.mk {K : PySem.W.Frag} {a b : Addr} {xs ys : List V} {k : Nat} {js : List Nat} {g : TG} {te : TE} {Q : VK} {σ : St} {H : Hp} (n : Nat) (hn : n = min xs.length ys.length) (h1 : SqL K H a xs) (h2 : SqL K H b ys) (Pv : Nat → List V → St → Hp → Prop) (h0 : Pv 0 [] (compSt k js σ) H) (hl : ∀ i zs σ H, i ≤ n → Pv i zs σ H → SqL K H a xs ∧ SqL K H b ys)
    (hs : ∀ i x y zs σ H T, i < n → xs[i]? = some x → ys[i]? = some y → Pv i zs σ H → H T = none → zs.length < sizeLine ∧ g (.ref T) σ (upd H T (.tup [x, y])) fun σ3 H3 => te σ3 H3 fun v H4 => Pv (i + 1) (zs ++ [v]) σ3 H4) (hz : ∀ zs σ H, Pv n zs σ H → ∀ p, H p = none → Q (.ref p) (upd H p (.lst zs))) (hlen : ∀ i zs σ H, Pv i zs σ H → zs.length < sizeLine) :
    CompZL K k js g te σ [.ref a, .ref b] H Q := by
  subst hn
  refine ⟨a, b, xs, ys, rfl, h1, h2, fun i m zs σ H => m = min xs.length ys.length - i ∧ i ≤ min xs.length ys.length ∧ Pv i zs σ H, ⟨_, rfl, Nat.zero_le _, h0⟩, ?_⟩
  rintro i m zs σ H ⟨rfl, hi, p⟩
  obtain ⟨k1, k2⟩ := hl i zs σ H hi p
  by_cases hlt : i < min xs.length ys.length
  · have l1 : i < xs.length := by omega
    have l2 : i < ys.length := by omega
    refine .inr ⟨⟨xs, ys, _, _, k1, k2, List.getElem?_eq_getElem l1, List.getElem?_eq_getElem l2⟩, hlen _ _ _ _ p, Pv (i + 1), fun zs' σ' H' p' => ⟨min xs.length ys.length - (i + 1), by omega, rfl, hlt, p'⟩, fun v H' yy => ?_⟩
    obtain ⟨T, x, y, rfl, hT, rfl, ex⟩ := yy
    obtain ⟨ex1, ex2⟩ := ex xs ys k1 k2
    exact (hs i x y zs σ H T hlt ex1 ex2 p hT).2
  · have e : i = min xs.length ys.length := by omega
    exact .inl ⟨⟨xs, ys, k1, k2, by omega⟩, hz zs σ H (e ▸ p)⟩
end L2
namespace L2
open PySem PySem.Spec PyProof.Rows
section
variable {prog : Program} {w : World} {A : Around} {E : Value → Shared → Prop} {s : Shared}
end
section
variable {X : Cx}
def rCount : V → List V → Hp → VK → Prop := fun x ys H Q => ∃ a o xs y, x = .ref a ∧ ys = [y] ∧ H a = some (.frz o (.tup xs)) ∧ xs.all flatV = true ∧ flatV y = true ∧ Q (.int (xs.countP fun z => eqV z y)) H
def tBMf (r : V → List V → Hp → VK → Prop) (to : TE) (t : TA) : TE := fun σ H Q => to σ H fun x H1 => (∃ a o xs, x = .ref a ∧ H1 a = some (.frz o (.tup xs)) ∧ o.dict = none) ∧ t σ H1 fun ys H2 => r x ys H2 Q
end
end L2
namespace L2
open PySem PySem.Spec PyProof.Rows
theorem ps_setC {X : Cx} {i : Nat} {x : Str} {elt tg iter : Expr} {scope : Scope} {cl : List (Str × Addr)} {pos pos' lpos : Pos} {own fv : List Str} {js : List Nat} {wi : TI} {g : TG} {te : TE}
    (hN : X.N.Nodup) (hx1 : X.N[i]? = some x) (hx : Loc X.env.scope x) (hf : X.fn x = true ∨ X.env.scope.names.lookup x = some .local)
    (hc : X.calm = true) (hi : PI X tg iter wi) (hclos : closureFor scope X.env = pure cl) (hcell : ∀ y ∈ scope.names, y.2 ≠ .cell) (hkind : scope.kind = .function)
    (hnames : ∀ y ∈ scope.names, y.2 = .local → scope.names.lookup y.1 = some .local)
    (hcl : ∀ x c, cl.lookup x = some c → X.env.cells.lookup x = some c)
    (hhas : ∀ x, ((relabel scope X.env).names.lookup x = some .cell ∨ (relabel scope X.env).names.lookup x = some .free) → ∃ c, cl.lookup x = some c)
    (hlen : js.length = fv.length) (hcap : ∀ (i : Nat) x j, fv[i]? = some x → js[i]? = some j → Cap X scope cl x j)
    (hg : ∀ (C : Addr) (ex : List Addr) (s : Shared) (H : Hp), PG (cxComp X (own ++ fv) scope cl C ex s H) tg g)
    (he : ∀ (C : Addr) (ex : List Addr) (s : Shared) (H : Hp), PE (cxComp X (own ++ fv) scope cl C ex s H) elt te)
    (hsw : swapsWith (.ListComp elt [⟨tg, iter, [], 0⟩] scope lpos) (some (.Name x pos')) pos.line X.env = pure true := by rfl)
    (hs : ∀ x, foldedSetIterable iter X.env x = pure x := by intro _; rfl) :
    PS X (.Assign [.Name x pos'] (.ListComp elt [⟨tg, iter, [], 0⟩] scope lpos) pos) (tAsg (tComp wi own.length js g te) (gName i)) := by
  intro pins s σ H D I h
  rw [exec_Assign_Name_used _ _ _ _ hsw]
  refine wpAny_bind (wpAny_standAt ?_)
  rw [arm_evalThenUse_ListComp]
  have core := comp_core (use := some (assign (.Name x pos') X.env)) (QQ := fun _ s' => SP X pins D .next s') (fpos := firstIterPos [⟨tg, iter, [], 0⟩] lpos) (pos := lpos) hc hi hclos hcell hkind hnames hcl hhas hlen hcap hg he hs I h (fun a C s5 H5 fl I5 zC zL zS zc zp ⟨m, hn⟩ q => ?_)
  · refine wpAny_bind (wpAny_bind (thn core fun _ s' hq => ?_))
    exact wpAny_pure (wpAny_pure hq)
  · show wpAny (model X.prog X.w) X.A (assign (.Name x pos') X.env (.ref a)) _ X.xe s5
    show wpAny (model X.prog X.w) X.A (do standAt pos'; bindName X.env x (.ref a)) _ X.xe s5
    refine wpAny_bind (wpAny_standAt ?_)
    refine bindName_ ?_
    refine store_ok2 I5 hN hx1 hx (show RelV (.ref a) (.ref a) from rfl) (fun s6 I6 ⟨b, sb, hb⟩ => ?_) hf
    have cb : C ≠ b := by
      rcases hb with rfl | hb
      · exact zL
      · exact fun z => zc x b hb z.symm
    obtain ⟨o, es, ep, e, r⟩ := hn
    refine ⟨m, ⟨o, es, ep, (sb.2 C cb).trans e, r⟩, fun h' sc => ?_⟩
    exact ⟨_, H5, I6.turned (t' := s6.toks) (it := C) (fun d o nd e => sc.extBut d o nd e) zC zL (.inr zS) zc zp, q⟩
end L2
namespace L2
open PySem PySem.Spec PyProof.Rows
section
variable {X : Cx}
def startsB (x y : Str) : Bool := decide (0 + y.length ≤ x.length) && Builtin.Str.subAt x y 0
def rStarts : V → List V → Hp → VK → Prop := fun x xs H Q => ∃ z y, x = .str z ∧ xs = [.str y] ∧ Q (.bl (startsB z y)) H
def rSlStrX : V → Option Int → Option Int → Hp → VK → Prop := fun x lo hi H Q => ∃ z, x = .str z ∧ z.length ≤ 20000 ∧ Q (.str (Txt.slice z lo hi)) H
end
end L2
namespace L2
open PySem PySem.Spec PyProof.Rows
section
variable {κ : Type} [DecidableEq κ]
def valV (kvs : List (κ × V)) (k : κ) : Option V := (kvs.find? fun kv => decide (kv.1 = k)).map (·.2)
def putK (kvs : List (κ × V)) (k : κ) (v : V) : List (κ × V) :=
  if (kvs.any fun kv => decide (kv.1 = k)) = true then kvs.map (fun kv => if kv.1 = k then (kv.1, v) else kv) else kvs ++ [(k, v)]
def dropK (kvs : List (κ × V)) (k : κ) : List (κ × V) := kvs.filter fun kv => decide (kv.1 ≠ k)
theorem valV_pos {p : κ × V} {r : List (κ × V)} {k : κ} (e : p.1 = k) : valV (p :: r) k = some p.2 := by simp [valV, List.find?_cons, e]
theorem valV_neg {p : κ × V} {r : List (κ × V)} {k : κ} (e : ¬ p.1 = k) : valV (p :: r) k = valV r k := by simp [valV, List.find?_cons, e]
theorem valV_any (k : κ) : ∀ kvs : List (κ × V), (kvs.any fun kv => decide (kv.1 = k)) = (valV kvs k).isSome
  | [] => rfl
  | p :: r => by
    rw [List.any_cons]
    by_cases e : p.1 = k
    · simp only [valV_pos e, decide_eq_true e, Bool.true_or, Option.isSome_some]
    · rw [valV_neg e, decide_eq_false e, Bool.false_or]; exact valV_any k r
theorem RelO.isSome_eq {o : Option V} {u : Option Value} (r : RelO o u) : o.isSome = u.isSome := by
  cases o with
  | none => cases u with
    | none => rfl
    | some _ => exact (show False from r).elim
  | some _ => cases u with
    | none => exact (show False from r).elim
    | some _ => rfl
theorem RelO.getD {o : Option V} {u : Option Value} {d : V} {d' : Value} (r : RelO o u) (rd : RelV d d') : RelV (o.getD d) (u.getD d') := by
  cases o with
  | none => cases u with
    | none => exact rd
    | some _ => exact (show False from r).elim
  | some _ => cases u with
    | none => exact (show False from r).elim
    | some _ => exact r
theorem KV.val {kvs : List (κ × V)} {vs : List (κ × Value)} (r : KV kvs vs) (k : κ) : RelO (valV kvs k) (valueAt vs k) := by
  unfold KV at r
  induction r with
  | nil => exact True.intro
  | @cons p q ps qs h t ih =>
    obtain ⟨h1, h2⟩ := h
    by_cases e : p.1 = k
    · have e' : q.1 = k := h1.symm.trans e
      have b : valueAt (q :: qs) k = some q.2 := by simp [valueAt, List.find?_cons, e']
      rw [valV_pos e, b]; exact h2
    · have e' : ¬ q.1 = k := fun z => e (h1.trans z)
      have b : valueAt (q :: qs) k = valueAt qs k := by simp [valueAt, List.find?_cons, e']
      rw [valV_neg e, b]; exact ih
theorem KV.any {kvs : List (κ × V)} {vs : List (κ × Value)} (r : KV kvs vs) (k : κ) : (kvs.any fun kv => decide (kv.1 = k)) = vs.any fun kv => decide (kv.1 = k) := by
  unfold KV at r
  induction r with
  | nil => rfl
  | cons h t ih => rw [List.any_cons, List.any_cons, ih, h.1]
theorem KV.repl {kvs : List (κ × V)} {vs : List (κ × Value)} (r : KV kvs vs) (k : κ) {y : V} {u : Value} (ry : RelV y u) :
    KV (kvs.map fun kv => if kv.1 = k then (kv.1, y) else kv) (vs.map fun kv => if kv.1 = k then (kv.1, u) else kv) := by
  unfold KV at r ⊢
  induction r with
  | nil => exact .nil
  | @cons p q ps qs h t ih =>
    rw [List.map_cons, List.map_cons]
    refine .cons ?_ ih
    obtain ⟨h1, h2⟩ := h
    by_cases e : p.1 = k
    · rw [if_pos e, if_pos (h1.symm.trans e)]; exact ⟨h1, ry⟩
    · rw [if_neg e, if_neg (fun z => e (h1.trans z))]; exact ⟨h1, h2⟩
theorem KV.put {kvs : List (κ × V)} {vs : List (κ × Value)} (r : KV kvs vs) (k : κ) {y : V} {u : Value} (ry : RelV y u) : KV (putK kvs k y) (stored vs k u) := by
  unfold putK stored
  rw [r.any k]
  by_cases e : (vs.any fun kv => decide (kv.1 = k)) = true
  · rw [if_pos e, if_pos e]; exact r.repl k ry
  · rw [if_neg e, if_neg e]; exact Paired.snoc r ⟨rfl, ry⟩
theorem KV.drop {kvs : List (κ × V)} {vs : List (κ × Value)} (r : KV kvs vs) (k : κ) : KV (dropK kvs k) (without vs k) := by
  unfold KV at r ⊢
  unfold dropK without
  induction r with
  | nil => exact .nil
  | @cons p q ps qs h t ih =>
    obtain ⟨h1, h2⟩ := h
    rw [List.filter_cons, List.filter_cons]
    by_cases e : p.1 = k
    · have a : ¬ decide (p.1 ≠ k) = true := by simp [e]
      have b : ¬ decide (q.1 ≠ k) = true := by simp [h1.symm.trans e]
      rw [if_neg a, if_neg b]; exact ih
    · have e' : ¬ q.1 = k := fun z => e (h1.trans z)
      have a : decide (p.1 ≠ k) = true := by simp [e]
      have b : decide (q.1 ≠ k) = true := by simp [e']
      rw [if_pos a, if_pos b]; exact .cons ⟨h1, h2⟩ ih
theorem KV.length {kvs : List (κ × V)} {vs : List (κ × Value)} (r : KV kvs vs) : kvs.length = vs.length := Paired.length r
end
abbrev KT (H : Hp) : List (List Key × V) → List (List Key × Addr × Value) → Prop := Paired fun p q => p.1 = q.1 ∧ H q.2.1 = some (.tup (p.1.map kV)) ∧ RelV p.2 q.2.2
theorem KT.val {H : Hp} {kvs : List (List Key × V)} {xs : List (List Key × Addr × Value)} (r : KT H kvs xs) (k : List Key) : RelO (valV kvs k) ((atKey xs k).map (·.2)) := by
  induction r with
  | nil => exact True.intro
  | @cons p q ps qs h t ih =>
    obtain ⟨h1, _, h2⟩ := h
    by_cases e : p.1 = k
    · have e' : q.1 = k := h1.symm.trans e
      have b : atKey (q :: qs) k = some q.2 := by simp [atKey, List.find?_cons, e']
      rw [valV_pos e, b]; exact h2
    · have e' : ¬ q.1 = k := fun z => e (h1.trans z)
      have b : atKey (q :: qs) k = atKey qs k := by simp [atKey, List.find?_cons, e']
      rw [valV_neg e, b]; exact ih
theorem KT.repl {H : Hp} {kvs : List (List Key × V)} {xs : List (List Key × Addr × Value)} (r : KT H kvs xs) (k : List Key) {y : V} {u : Value} (ry : RelV y u) :
    KT H (kvs.map fun kv => if kv.1 = k then (kv.1, y) else kv) (xs.map (putAt k u)) := by
  induction r with
  | nil => exact .nil
  | @cons p q ps qs h t ih =>
    rw [List.map_cons, List.map_cons]
    refine .cons ?_ ih
    obtain ⟨h1, h2, h3⟩ := h
    unfold putAt
    by_cases e : p.1 = k
    · rw [if_pos e, if_pos (h1.symm.trans e)]; exact ⟨h1, h2, ry⟩
    · rw [if_neg e, if_neg (fun z => e (h1.trans z))]; exact ⟨h1, h2, h3⟩
theorem KT.put {H : Hp} {kvs : List (List Key × V)} {xs : List (List Key × Addr × Value)} (r : KT H kvs xs) (k : List Key) {b : Addr} {y : V} {u : Value} (hb : H b = some (.tup (k.map kV))) (ry : RelV y u) :
    KT H (putK kvs k y) (storedH xs k b u) := by
  have e : (kvs.any fun kv => decide (kv.1 = k)) = (atKey xs k).isSome := by
    rw [valV_any, (r.val k).isSome_eq, Option.isSome_map]
  unfold putK storedH
  rw [e]
  by_cases q : (atKey xs k).isSome = true
  · rw [if_pos q, if_pos q]; exact r.repl k ry
  · rw [if_neg q, if_neg q]; exact Paired.snoc r ⟨rfl, hb, ry⟩
theorem KT.keeps {H H' : Hp} {kvs : List (List Key × V)} {xs : List (List Key × Addr × Value)} (r : KT H kvs xs) (ht : ∀ b ys, H b = some (.tup ys) → H' b = some (.tup ys)) : KT H' kvs xs :=
  Paired.mapP r fun _ _ z => ⟨z.1, ht _ _ z.2.1, z.2.2⟩
section
variable {P : Program} {w : World} {H : Hp} {h : Heap} {a : Addr}
end
def DGet (H : Hp) (a : Addr) (y : V) (r : Option V) : Prop :=
  (∃ kvs k, Rd H a (.dK kvs) ∧ y = kV k ∧ r = valV kvs k) ∨ ∃ kvs k b, Rd H a (.dT kvs) ∧ y = .ref b ∧ H b = some (.tup (k.map kV)) ∧ r = valV kvs k
def DPut (H : Hp) (a : Addr) (y v : V) (H' : Hp) : Prop :=
  (∃ kvs k, H a = some (.dK kvs) ∧ y = kV k ∧ kvs.length < sizeLine ∧ H' = upd H a (.dK (putK kvs k v))) ∨
  ∃ kvs k b, H a = some (.dT kvs) ∧ y = .ref b ∧ H b = some (.tup (k.map kV)) ∧ kvs.length < sizeLine ∧ H' = upd H a (.dT (putK kvs k v))
theorem DGet.k {H : Hp} {a : Addr} {kvs : List (Key × V)} {k : Key} (e : H a = some (.dK kvs)) : DGet H a (kV k) (valV kvs k) := .inl ⟨kvs, k, .inl e, rfl, rfl⟩
theorem DGet.t {H : Hp} {a b : Addr} {kvs : List (List Key × V)} {k : List Key} (e : H a = some (.dT kvs)) (eb : H b = some (.tup (k.map kV))) : DGet H a (.ref b) (valV kvs k) := .inr ⟨kvs, k, b, .inl e, rfl, eb, rfl⟩
theorem DPut.k {H : Hp} {a : Addr} {kvs : List (Key × V)} {k : Key} {v : V} (e : H a = some (.dK kvs)) (hl : kvs.length < sizeLine) : DPut H a (kV k) v (upd H a (.dK (putK kvs k v))) := .inl ⟨kvs, k, e, rfl, hl, rfl⟩
theorem DPut.t {H : Hp} {a b : Addr} {kvs : List (List Key × V)} {k : List Key} {v : V} (e : H a = some (.dT kvs)) (eb : H b = some (.tup (k.map kV))) (hl : kvs.length < sizeLine) :
    DPut H a (.ref b) v (upd H a (.dT (putK kvs k v))) := .inr ⟨kvs, k, b, e, rfl, eb, hl, rfl⟩
section
variable {X : Cx} {pins : List (Addr × Obj)} {σ : St} {H : Hp} {s : Shared} {a : Addr} {y v : V} {u r : Value} {o : Option V} {A : Around} {E : Value → Shared → Prop}
end
section
variable {X : Cx} {pins : List (Addr × Obj)} {σ : St} {H : Hp} {s : Shared} {a : Addr} {kvs : List (Key × V)} {k : Key} {u : Value} {A : Around} {E : Value → Shared → Prop}
end
def tDIn (ty td : TE) : TE := fun σ H Q => ty σ H fun y H1 => td σ H1 fun x H2 => ∃ a o, x = .ref a ∧ DGet H2 a y o ∧ Q (.bl o.isSome) H2
def sDPut (td ty tv : TE) : TS := fun D σ H => tv σ H fun v H1 => td σ H1 fun x H2 => ty σ H2 fun y H3 => ∃ a H4, x = .ref a ∧ DPut H3 a y v H4 ∧ D.nx σ H4
section
variable {X : Cx} {o i e value : Expr} {pos pos' tpos : Pos} {td ty tv : TE}
end
def tDNewK : TE := fun _ H Q => ∀ p, H p = none → Q (.ref p) (upd H p (.dK []))
section
variable {X : Cx} {pos : Pos}
end
def mergeK (kvs more : List (Key × V)) : List (Key × V) := more.foldl (fun acc kv => putK acc kv.1 kv.2) kvs
structure M1 (X : Cx) (o : Expr) (m : Str) (apos : Pos) (e : Expr) (cpos : Pos) : Prop where
  base : attributeBase o m X.env (eval o X.env) = eval o X.env
  few : ((backTo cpos (starEach [e] X.env)).all (fun x => !x.1) && (backToKw cpos (keywordEach [] X.env)).all (fun x => x.1.isSome)
    && decide (([e] : List Expr).length + ([] : List Keyword).length + (if ([] : List Keyword).isEmpty then 0 else 1) < 30)) = true
  line : (apos.endLine == cpos.line) = true
  trees : backTo cpos (starEach [e] X.env) = [(false, eval e X.env)]
structure M2 (X : Cx) (o : Expr) (m : Str) (apos : Pos) (e f : Expr) (cpos : Pos) : Prop where
  base : attributeBase o m X.env (eval o X.env) = eval o X.env
  few : ((backTo cpos (starEach [e, f] X.env)).all (fun x => !x.1) && (backToKw cpos (keywordEach [] X.env)).all (fun x => x.1.isSome)
    && decide (([e, f] : List Expr).length + ([] : List Keyword).length + (if ([] : List Keyword).isEmpty then 0 else 1) < 30)) = true
  line : (apos.endLine == cpos.line) = true
  trees : backTo cpos (starEach [e, f] X.env) = [(false, eval e X.env), (false, eval f X.env)]
def IsD (H : Hp) (a : Addr) : Prop := (∃ kvs, Rd H a (.dK kvs)) ∨ ∃ kvs, Rd H a (.dT kvs)
section
variable {X : Cx} {pins : List (Addr × Obj)} {σ : St} {H : Hp} {s : Shared} {a : Addr} {y d : V} {u r : Value} {o : Option V} {A : Around} {E : Value → Shared → Prop}
end
def tDGet1 (td ty : TE) : TE := fun σ H Q => td σ H fun x H1 => ∃ a, x = .ref a ∧ IsD H1 a ∧ ty σ H1 fun y H2 => ∃ o, DGet H2 a y o ∧ Q (o.getD .non) H2
section
variable {X : Cx} {o e f : Expr} {apos cpos : Pos} {td ty tx : TE}
end
section
variable {X : Cx} {pins : List (Addr × Obj)} {σ : St} {H : Hp} {s : Shared} {a : Addr} {kvs : List (Key × V)} {A : Around} {E : Value → Shared → Prop}
end
section
variable {X : Cx} {pins : List (Addr × Obj)} {σ : St} {H : Hp} {s : Shared} {a : Addr} {y : V} {u : Value} {A : Around} {E : Value → Shared → Prop}
end
end L2
namespace L2
open PySem PySem.Spec PyProof.Rows
section
variable {X : Cx}
end
section
variable {κ : Type} [DecidableEq κ]
end
end L2
namespace L2
open PySem PySem.Spec PyProof.Rows
def KTab (P : Program) (w : World) (K : PySem.W.Frag) (d : Addr) (kvs : List (Str × Addr)) : Prop := (d == sysModules) = false ∧ ∀ h : Heap, K.In h → h.DictOf (mixKind P w) d (kvs.map fun p => ((Sum.inr p.1 : Key), Value.ref p.2))
def entT (pm : Params) (l : List (Str × Tok × Addr)) : List DictEntry := l.map fun p => ⟨PyData.keyHash pm p.1, .str p.1 p.2.1, .ref p.2.2⟩
theorem KTab.mk {P : Program} {w : World} {K : PySem.W.Frag} {d : Addr} {l : List (Str × Tok × Addr)} {es : Array DictEntry} {n : Nat} (hd : (d == sysModules) = false) (hl : K.lookup d = some { cls := .type "dict", data := .dict es n }) (he : es.toList = entT w.params l) (nd : (l.map (·.1)).Nodup) :
    KTab P w K d (l.map fun p => (p.1, p.2.2)) := by
  refine ⟨hd, fun h KI => ⟨_, es, n, KI d _ hl, ⟨rfl, rfl, rfl⟩, rfl, ?_, ?_, ?_⟩⟩
  · intro e hm
    have hm : e ∈ es.toList := Array.mem_toList_iff.mpr hm
    rw [he] at hm
    obtain ⟨p, _, rfl⟩ := List.mem_map.mp hm
    exact ⟨Sum.inr p.1, keyIs_str p.1 p.2.1, rfl⟩
  · rw [he]
    clear he nd hl
    induction l with
    | nil => exact .nil
    | cons p r ih => exact .cons (keyIs_str p.1 p.2.1) rfl ih
  · rw [List.map_map, List.map_map]
    have e : ((fun x : Key × Value => x.1) ∘ (fun p : Str × Addr => ((Sum.inr p.1 : Key), Value.ref p.2))) ∘ (fun p : Str × Tok × Addr => (p.1, p.2.2)) = (fun x : Str => (Sum.inr x : Key)) ∘ fun p => p.1 := rfl
    rw [← List.map_map] at *
    have z : (l.map fun p => (Sum.inr p.1 : Key)).Nodup := by
      have : (l.map fun p => (Sum.inr p.1 : Key)) = (l.map (·.1)).map (fun x : Str => (Sum.inr x : Key)) := by rw [List.map_map]; rfl
      rw [this]
      exact List.Pairwise.map _ (fun a b (h : a ≠ b) z => h (Sum.inr.inj z)) nd
    simpa [List.map_map, Function.comp_def] using z
section
variable {X : Cx}
def rKTab (kvs : List (Str × Addr)) : V → Hp → VK → Prop := fun y H Q => ∃ x a, y = .str x ∧ kvs.lookup x = some a ∧ Q (.ref a) H
def tKTab (kvs : List (Str × Addr)) (te : TE) : TE := fun σ H Q => te σ H fun y H1 => rKTab kvs y H1 Q
def tKIn (kvs : List (Str × Addr)) (te : TE) : TE := fun σ H Q => te σ H fun y H1 => ∃ x, y = .str x ∧ Q (.bl (kvs.lookup x).isSome) H1
end
end L2
namespace L2
open PySem PySem.Spec PyProof.Rows
section
variable {pg : Program} {wd : World} {B : Around} {X0 : Value → Shared → Prop} {s0 : Shared}
end
def ItzM (K : PySem.W.Frag) (a b : Addr) : It := ⟨fun i H => ∃ xs ys x y, SqL K H a xs ∧ SqT K H b ys ∧ xs[i]? = some x ∧ ys[i]? = some y,
  fun i H v H' => ∃ T x y, v = .ref T ∧ H T = none ∧ H' = upd H T (.tup [x, y]) ∧ ∀ xs ys, SqL K H a xs → SqT K H b ys → xs[i]? = some x ∧ ys[i]? = some y, fun i H => ∃ xs ys, SqL K H a xs ∧ SqT K H b ys ∧ (xs.length ≤ i ∨ ys.length ≤ i)⟩
section
variable {X : Cx} {es : List Expr} {x1 : Nat} {pp : Pos}
def iZipM (K : PySem.W.Frag) (ta : TA) : TI := fun σ H R => ta σ H fun vs H1 => ∃ a b xs ys, vs = [.ref a, .ref b] ∧ SqL K H1 a xs ∧ SqT K H1 b ys ∧ R (ItzM K a b) H1
end
def LoopZM (K : PySem.W.Frag) (g : TG) (tb : TS) (D : Ends) (σ : St) (vs : List V) (H1 : Hp) : Prop := ∃ a b xs ys, vs = [.ref a, .ref b] ∧ SqL K H1 a xs ∧ SqT K H1 b ys ∧ ∃ W : Nat → Nat → St → Hp → Prop, (∃ m, W 0 m σ H1) ∧ ∀ i m σ H, W i m σ H →
  ((ItzM K a b).stop i H ∧ D.nx σ H) ∨ ((ItzM K a b).go i H ∧ ∃ N : St → Hp → Prop, (∀ σ' H', N σ' H' → ∃ m', m' < m ∧ W (i + 1) m' σ' H') ∧ ∀ x H', (ItzM K a b).yld i H x H' → g x σ H' fun σ2 H2 => tb { D with nx := N, ct := N, bk := D.nx } σ2 H2)
theorem for_eqZM {K : PySem.W.Frag} {ta : TA} {g : TG} {tb : TS} {D : Ends} {σ : St} {H : Hp} : tFor (iZipM K ta) g tb D σ H = ta σ H fun vs H1 => LoopZM K g tb D σ vs H1 := rfl
theorem LoopZM.mk {K : PySem.W.Frag} {a b : Addr} {xs ys : List V} {g : TG} {tb : TS} {D : Ends} {σ : St} {H : Hp} (n : Nat) (hn : n = min xs.length ys.length) (h1 : SqL K H a xs) (h2 : SqT K H b ys) (Pv : Nat → St → Hp → Prop) (h0 : Pv 0 σ H) (hl : ∀ i σ H, i ≤ n → Pv i σ H → SqL K H a xs ∧ SqT K H b ys)
    (hs : ∀ i x y σ H T, i < n → xs[i]? = some x → ys[i]? = some y → Pv i σ H → H T = none → g (.ref T) σ (upd H T (.tup [x, y])) fun σ2 H2 => tb { D with nx := Pv (i + 1), ct := Pv (i + 1), bk := D.nx } σ2 H2) (hd : ∀ σ H, Pv n σ H → D.nx σ H) :
    LoopZM K g tb D σ [.ref a, .ref b] H := by
  subst hn
  refine ⟨a, b, xs, ys, rfl, h1, h2, fun i m σ H => m = min xs.length ys.length - i ∧ i ≤ min xs.length ys.length ∧ Pv i σ H, ⟨_, rfl, Nat.zero_le _, h0⟩, ?_⟩
  rintro i m σ H ⟨rfl, hi, p⟩
  obtain ⟨k1, k2⟩ := hl i σ H hi p
  by_cases hlt : i < min xs.length ys.length
  · have l1 : i < xs.length := by omega
    have l2 : i < ys.length := by omega
    refine .inr ⟨⟨xs, ys, _, _, k1, k2, List.getElem?_eq_getElem l1, List.getElem?_eq_getElem l2⟩, Pv (i + 1), fun σ' H' p' => ⟨min xs.length ys.length - (i + 1), by omega, rfl, hlt, p'⟩, fun v H' yy => ?_⟩
    obtain ⟨T, x, y, rfl, hT, rfl, ex⟩ := yy
    obtain ⟨ex1, ex2⟩ := ex xs ys k1 k2
    exact hs i x y σ H T hlt ex1 ex2 p hT
  · have e : i = min xs.length ys.length := by omega
    exact .inl ⟨⟨xs, ys, k1, k2, by omega⟩, hd σ H (e ▸ p)⟩
def CompZM (K : PySem.W.Frag) (k : Nat) (js : List Nat) (g : TG) (te : TE) (σ : St) (vs : List V) (H1 : Hp) (Q : VK) : Prop := ∃ a b xs ys, vs = [.ref a, .ref b] ∧ SqL K H1 a xs ∧ SqT K H1 b ys ∧ ∃ W : Nat → Nat → List V → St → Hp → Prop, (∃ m, W 0 m [] (compSt k js σ) H1) ∧ ∀ i m zs σ' H', W i m zs σ' H' →
    ((ItzM K a b).stop i H' ∧ ∀ p, H' p = none → Q (.ref p) (upd H' p (.lst zs))) ∨
    ((ItzM K a b).go i H' ∧ zs.length < sizeLine ∧ ∃ N : List V → St → Hp → Prop, (∀ zs σ2 H2, N zs σ2 H2 → ∃ m', m' < m ∧ W (i + 1) m' zs σ2 H2) ∧ ∀ x H2, (ItzM K a b).yld i H' x H2 → g x σ' H2 fun σ3 H3 => te σ3 H3 fun v H4 => N (zs ++ [v]) σ3 H4)
theorem comp_eqZM {K : PySem.W.Frag} {k : Nat} {js : List Nat} {ta : TA} {g : TG} {te : TE} {σ : St} {H : Hp} {Q : VK} : tComp (iZipM K ta) k js g te σ H Q = ta σ H fun vs H1 => CompZM K k js g te σ vs H1 Q := rfl
theorem CompZM.mk {K : PySem.W.Frag} {a b : Addr} {xs ys : List V} {k : Nat} {js : List Nat} {g : TG} {te : TE} {Q : VK} {σ : St} {H : Hp} (n : Nat) (hn : n = min xs.length ys.length) (h1 : SqL K H a xs) (h2 : SqT K H b ys) (Pv : Nat → List V → St → Hp → Prop) (h0 : Pv 0 [] (compSt k js σ) H) (hl : ∀ i zs σ H, i ≤ n → Pv i zs σ H → SqL K H a xs ∧ SqT K H b ys)
    (hs : ∀ i x y zs σ H T, i < n → xs[i]? = some x → ys[i]? = some y → Pv i zs σ H → H T = none → zs.length < sizeLine ∧ g (.ref T) σ (upd H T (.tup [x, y])) fun σ3 H3 => te σ3 H3 fun v H4 => Pv (i + 1) (zs ++ [v]) σ3 H4) (hz : ∀ zs σ H, Pv n zs σ H → ∀ p, H p = none → Q (.ref p) (upd H p (.lst zs))) (hlen : ∀ i zs σ H, Pv i zs σ H → zs.length < sizeLine) :
    CompZM K k js g te σ [.ref a, .ref b] H Q := by
  subst hn
  refine ⟨a, b, xs, ys, rfl, h1, h2, fun i m zs σ H => m = min xs.length ys.length - i ∧ i ≤ min xs.length ys.length ∧ Pv i zs σ H, ⟨_, rfl, Nat.zero_le _, h0⟩, ?_⟩
  rintro i m zs σ H ⟨rfl, hi, p⟩
  obtain ⟨k1, k2⟩ := hl i zs σ H hi p
  by_cases hlt : i < min xs.length ys.length
  · have l1 : i < xs.length := by omega
    have l2 : i < ys.length := by omega
    refine .inr ⟨⟨xs, ys, _, _, k1, k2, List.getElem?_eq_getElem l1, List.getElem?_eq_getElem l2⟩, hlen _ _ _ _ p, Pv (i + 1), fun zs' σ' H' p' => ⟨min xs.length ys.length - (i + 1), by omega, rfl, hlt, p'⟩, fun v H' yy => ?_⟩
    obtain ⟨T, x, y, rfl, hT, rfl, ex⟩ := yy
    obtain ⟨ex1, ex2⟩ := ex xs ys k1 k2
    exact (hs i x y zs σ H T hlt ex1 ex2 p hT).2
  · have e : i = min xs.length ys.length := by omega
    exact .inl ⟨⟨xs, ys, k1, k2, by omega⟩, hz zs σ H (e ▸ p)⟩
def CompTI (K : PySem.W.Frag) (k : Nat) (js : List Nat) (g : TG) (tc : TT) (te : TE) (σ : St) (v : V) (H1 : Hp) (Q : VK) : Prop := ∃ a, v = .ref a ∧ (∃ xs, SqT K H1 a xs) ∧ ∃ W : Nat → Nat → List V → St → Hp → Prop, (∃ m, W 0 m [] (compSt k js σ) H1) ∧ ∀ i m zs σ' H', W i m zs σ' H' →
    ((Itt K a).stop i H' ∧ ∀ p, H' p = none → Q (.ref p) (upd H' p (.lst zs))) ∨
    ((Itt K a).go i H' ∧ zs.length < sizeLine ∧ ∃ N : List V → St → Hp → Prop, (∀ zs σ2 H2, N zs σ2 H2 → ∃ m', m' < m ∧ W (i + 1) m' zs σ2 H2) ∧ ∀ x H2, (Itt K a).yld i H' x H2 → g x σ' H2 fun σ3 H3 => tc σ3 H3 fun b H4 => if b = true then te σ3 H4 fun v H5 => N (zs ++ [v]) σ3 H5 else N zs σ3 H4)
theorem comp_eqTI {K : PySem.W.Frag} {k : Nat} {js : List Nat} {tx : TE} {g : TG} {tc : TT} {te : TE} {σ : St} {H : Hp} {Q : VK} : tCompI (iTup K tx) k js g tc te σ H Q = tx σ H fun v H1 => CompTI K k js g tc te σ v H1 Q := rfl
theorem CompTI.mk {K : PySem.W.Frag} {a : Addr} {xs : List V} {k : Nat} {js : List Nat} {g : TG} {tc : TT} {te : TE} {Q : VK} {σ : St} {H : Hp} (h1 : SqT K H a xs) (Pv : Nat → List V → St → Hp → Prop) (h0 : Pv 0 [] (compSt k js σ) H) (hl : ∀ i zs σ H, i ≤ xs.length → Pv i zs σ H → SqT K H a xs ∧ zs.length < sizeLine)
    (hs : ∀ i x zs σ H, xs[i]? = some x → Pv i zs σ H → g x σ H fun σ3 H3 => tc σ3 H3 fun b H4 => if b = true then te σ3 H4 fun v H5 => Pv (i + 1) (zs ++ [v]) σ3 H5 else Pv (i + 1) zs σ3 H4) (hz : ∀ zs σ H, Pv xs.length zs σ H → ∀ p, H p = none → Q (.ref p) (upd H p (.lst zs))) :
    CompTI K k js g tc te σ (.ref a) H Q := by
  refine ⟨a, rfl, ⟨xs, h1⟩, fun i m zs σ H => m = xs.length - i ∧ i ≤ xs.length ∧ Pv i zs σ H, ⟨_, rfl, Nat.zero_le _, h0⟩, ?_⟩
  rintro i m zs σ H ⟨rfl, hi, p⟩
  obtain ⟨k1, k2⟩ := hl i zs σ H hi p
  by_cases hlt : i < xs.length
  · refine .inr ⟨⟨xs, _, k1, List.getElem?_eq_getElem hlt⟩, k2, Pv (i + 1), fun zs' σ' H' p' => ⟨xs.length - (i + 1), by omega, rfl, hlt, p'⟩, fun v H' yy => ?_⟩
    obtain ⟨rfl, ex⟩ := yy
    exact hs i v zs σ _ (ex xs k1) p
  · have e : i = xs.length := by omega
    exact .inl ⟨⟨xs, k1, by omega⟩, hz zs σ H (e ▸ p)⟩
end L2
namespace L2
open PySem PySem.Spec PyProof.Rows
section
variable {X : Cx}
def rJoinD (K : PySem.W.Frag) : V → List V → Hp → VK → Prop := fun x xs H Q => ∃ (z : Str) (l : Addr) (ys : List Str), x = .str z ∧ z.length = 0 ∧ xs = [.ref l] ∧ SqL K H l (ys.map V.str) ∧ ys.length ≤ 100 ∧ (∀ y ∈ ys, okS 10 y) ∧ (okS 1000 (Builtin.Str.glued z ys) → Q (.str (Builtin.Str.glued z ys)) H)
theorem call_isiV : CallR X (.builtin "isinstance") (fun xs H Q => ∃ x n t, xs = [x, .ty n] ∧ n ∈ ["int", "bool", "tuple", "list", "str"] ∧ (tyS x = some t ∨ ∃ a ys, x = .ref a ∧ H a = some (.tup ys) ∧ t = "tuple") ∧ Q (.bl (isiN t n)) H) := by
  intro pins s σ H xs us Q I r h
  obtain ⟨x, n, t, rfl, hn, hx, q⟩ := h
  rcases hx with hx | ⟨a, ys, rfl, ha, rfl⟩
  · refine call_isiS pins s σ H _ us Q I r ⟨x, n, rfl, ⟨hn, by rw [hx]; rfl⟩, ?_⟩
    unfold isiB
    rw [hx]
    exact q
  · refine call_isi pins s σ H _ us Q I r ⟨.ref a, n, .type "tuple", isiN "tuple" n, rfl, .tup ha, ?_, q⟩
    simp only [List.mem_cons, List.not_mem_nil, or_false] at hn
    rcases hn with rfl | rfl | rfl | rfl | rfl <;> exact kit_type (by decide +kernel)
end
theorem cl_sub3 {cells : List (Str × Addr)} {y z u : Str} {a b d : Addr} (h : cells.lookup y = some a) (h2 : cells.lookup z = some b) (h3 : cells.lookup u = some d) : ∀ x c, [(y, a), (z, b), (u, d)].lookup x = some c → cells.lookup x = some c := fun x c e => by
  rcases List.mem_cons.mp (PySem.mem_of_lookup e) with q | q
  · cases q; exact h
  · rcases List.mem_cons.mp q with q | q
    · cases q; exact h2
    · cases List.mem_singleton.mp q; exact h3
end L2
namespace L2
open PySem PySem.Spec PyProof.Rows
structure FunD (K : PySem.W.Frag) (x qual : Str) (st : Stmt) (dV : Addr) (its : Array Value) (f : Addr) (fd : FuncData) : Prop where
  ex : ∃ (oc : Value) (od : Option Addr) (kV doc pm : Value) (an : Option Addr) (cdv ct : Value) (osl : Array (Option Value)),
    fd = PySem.W.fnOf x qual (defArgs st) (defBody st) (defScope st) (.ref dV) kV doc pm an cdv ct ∧ K.lookup f = some ⟨oc, od, .func fd, osl⟩ ∧ PySem.W.codeIn K cdv qual = true
  kp : PySem.W.keepIn K (.ref f) = true
  dt : ∃ (o : Obj) (n : Nat), K.lookup dV = some o ∧ o.data = .seq its n
section
variable {P : Program} {w : World} {K : PySem.W.Frag} {mg : Str → Option Value} {base : Heap}
theorem FunD.ok {x qual : Str} {st : Stmt} {dV : Addr} {its : Array Value} {f : Addr} {fd : FuncData} {N ps : List Str} {k : Nat} {sp : Sp} (F : FunD K x qual st dV its f fd) (S : FnScope N ps (defScope st)) (len : ∀ vs H Q E, sp vs H Q E → vs.length = ps.length)
    (hbody : ∀ (cdv : Value) (A : Around) (outer : List Env) (s : Shared) (H : Hp) (vs : List V) (Q : VK) (E : XK), Room k (A.deeper (envOfC qual (defScope st) s.heap.objs.size f cdv)) → sp vs H Q E →
      ∃ t, PSs (cxOf CX0 P w K mg base N qual (defScope st) f cdv A outer s H E).nox (defBody st) t ∧ t { nx := fun _ H' => Q .non H', rt := Q } (start N vs) H) : FnOk P w K mg base CX0 (k + 1) f fd ps sp := by
  obtain ⟨oc, od, kV, doc, pm, an, cdv, ct, osl, rfl, lk, hcd⟩ := F.ex
  refine fn_of lk hcd S len fun A outer s H vs Q E hr hsp => ?_
  obtain ⟨t, h, q⟩ := hbody cdv A outer s H vs Q E hr hsp
  exact ⟨t, h.nox, q⟩
theorem FunD.binds {x qual : Str} {st : Stmt} {dV : Addr} {its : Array Value} {f : Addr} {fd : FuncData} {ps : List Str} {ds : List Value} (F : FunD K x qual st dV its f fd)
    (h : ∀ (kV doc pm : Value) (an : Option Addr) (cdv ct : Value) (us : List Value), (us ++ ds).length = ps.length → ∃ k, bindArgs (PySem.W.fnOf x qual (defArgs st) (defBody st) (defScope st) (.ref dV) kV doc pm an cdv ct) ⟨us, []⟩ = seqItems? (.ref dV) >>= k ∧ k (some its) = pure (ps.zip (us ++ ds))) : Binds K fd ps ds := by
  obtain ⟨oc, od, kV, doc, pm, an, cdv, ct, osl, rfl, lk, hcd⟩ := F.ex
  obtain ⟨o, n, ho, hs⟩ := F.dt
  intro s us KI hl
  obtain ⟨k, h1, h2⟩ := h kV doc pm an cdv ct us hl
  exact .of_defaults (T := dV) rfl (KI dV o ho) hs h1 h2
end
structure CalleeD (P : Program) (w : World) (K : PySem.W.Frag) (mg : Str → Option Value) (base : Heap) (CX : CXT) (k : Nat) (x : Str) (ps : List Str) (dvs : List V) (sp : Sp) : Prop where
  has : ∃ (f : Addr) (fd : FuncData) (ds : List Value), FnOk P w K mg base CX k f fd ps sp ∧ mg x = some (.ref f) ∧ PySem.W.keepIn K (.ref f) = true ∧ Binds K fd ps ds ∧ Vals dvs ds
theorem CalleeD.mono {P : Program} {w : World} {K : PySem.W.Frag} {mg : Str → Option Value} {base : Heap} {CX : CXT} {j k : Nat} {x : Str} {ps : List Str} {dvs : List V} {sp : Sp} (c : CalleeD P w K mg base CX j x ps dvs sp) (h : j ≤ k) : CalleeD P w K mg base CX k x ps dvs sp :=
  let ⟨f, fd, ds, ok, m, kp, b, v⟩ := c.has; ⟨⟨f, fd, ds, ok.mono h, m, kp, b, v⟩⟩
section
variable {X : Cx} {CX : CXT} {k : Nat} {ps : List Str} {dvs : List V} {sp : Sp} {E : XK} {x : Str} {p pos : Pos} {e : Expr} {es : List Expr} {t : TA}
end
def totS (z : Str) (ys : List Str) : Nat := ys.foldl (fun (n : Nat) (y : Str) => n + y.length + z.length) 0
section
variable {X : Cx}
def rJoinW (K : PySem.W.Frag) : V → List V → Hp → VK → Prop := fun x xs H Q => ∃ (z : Str) (l : Addr) (ys : List Str), x = .str z ∧ xs = [.ref l] ∧ SqL K H l (ys.map V.str) ∧ totS z ys ≤ 1000000 ∧ Q (.str (Builtin.Str.glued z ys)) H
def rMulS : R2 := fun x y H Q => ∃ a n, x = .str a ∧ y = .int n ∧ 0 ≤ n ∧ n ≤ 100 ∧ a.length ≤ 10 ∧ ∀ z : Str, z.length = a.length * n.toNat → Q (.str z) H
def rIxQ : R2 := fun x y H Q => ∃ p xs i v, x = .ref p ∧ y = .int i ∧ (H p = some (.lst xs) ∨ H p = some (.tup xs)) ∧ atI xs i = some v ∧ Q v H
end
end L2
namespace L2
open PySem PySem.Spec PyProof.Rows
section
open PySem.Builtin PySem.Builtin.Str
def splitL (c : Nat) : List Nat → List (List Nat)
  | [] => [[]]
  | d :: r => if d = c then [] :: splitL c r else match splitL c r with
    | [] => [[d]]
    | p :: ps => (d :: p) :: ps
def strL (L : List Nat) : Str := ⟨L.toArray⟩
section
variable {X : Cx}
def rSplit : V → List V → Hp → VK → Prop := fun x ys H Q => ∃ (t : Str) (c : Nat), x = .str t ∧ ys = [.str ⟨#[c]⟩] ∧ c < 256 ∧ t.length ≤ 1000000 ∧ ∀ l, H l = none → Q (.ref l) (upd H l (.lst ((splitL c t.cps.toList).map fun w => V.str (strL w))))
end
end
section
variable {X : Cx}
def rInN : R2 := fun x y H Q => ∃ p xs, x = .non ∧ y = .ref p ∧ H p = some (.lst xs) ∧ (∀ z ∈ xs, flatV z = true ∨ ∃ a ys, z = .ref a ∧ H a = some (.tup ys)) ∧ Q (.bl (xs.any fun z => eqV z .non)) H
end
section
variable {pg : Program} {wd : World} {B : Around} {X0 : Value → Shared → Prop} {s0 : Shared} {J d : Addr} {m : Nat} {Pr : Nat → Value → Prop} {OK : Heap → Prop}
end
section
variable {X : Cx}
def rMulC : R2 := fun x y H Q => ∃ a n, x = .str (strL a) ∧ y = .int n ∧ 0 ≤ n ∧ n ≤ 100 ∧ a.length ≤ 10 ∧ Q (.str (strL (List.replicate n.toNat a).flatten)) H
end
end L2
namespace L2
open PySem PySem.Spec PyProof.Rows
section
variable {pg : Program} {wd : World} {B : Around} {X0 : Value → Shared → Prop} {z0 : Shared}
end
section
variable {X : Cx}
def rExtendT : V → List V → Hp → VK → Prop := fun x vs H Q => ∃ l b xs zs, x = .ref l ∧ vs = [.ref b] ∧ H l = some (.lst xs) ∧ H b = some (.tup zs) ∧ xs.length + zs.length ≤ sizeLine ∧ Q .non (upd H l (.lst (xs ++ zs)))
def rUpdate : V → List V → Hp → VK → Prop := fun x ys H Q => ∃ a b kvs more, x = .ref a ∧ ys = [.ref b] ∧ a ≠ b ∧ H a = some (.dK kvs) ∧ H b = some (.dK more) ∧ kvs.length + more.length ≤ sizeLine ∧ Q .non (upd H a (.dK (mergeK kvs more)))
theorem call_isiLL : CallR X (.builtin "isinstance") (fun xs H Q => ∃ a ys, xs = [.ref a, .ty "list"] ∧ H a = some (.lst ys) ∧ Q (.bl true) H) := by
  intro pins s σ H xs us Q I r h
  obtain ⟨a, ys, rfl, ha, q⟩ := h
  exact call_isi pins s σ H _ us Q I r ⟨.ref a, "list", .type "list", true, rfl, .lst ha, kit_type (by decide +kernel), q⟩
end
end L2
namespace L2
open PySem PySem.Spec PyProof.Rows
def AlkV (H : Hp) : Nat → V → V → Prop
  | 0, x, y => flatV x = true ∧ x = y
  | d + 1, x, y => (flatV x = true ∧ x = y) ∨ ∃ (a b : Addr) (xs ys : List V), x = .ref a ∧ y = .ref b ∧ ((H a = some (.lst xs) ∧ H b = some (.lst ys)) ∨ (H a = some (.tup xs) ∧ H b = some (.tup ys))) ∧ xs.length = ys.length ∧ ∀ (i : Nat) z w, xs[i]? = some z → ys[i]? = some w → AlkV H d z w
theorem AlkV.same {H H' : Hp} (s : Same H H') : ∀ {d : Nat} {x y : V}, AlkV H d x y → AlkV H' d x y
  | 0, _, _, h => h
  | d + 1, _, _, .inl h => .inl h
  | d + 1, _, _, .inr ⟨a, b, xs, ys, e1, e2, h, hl, q⟩ => .inr ⟨a, b, xs, ys, e1, e2, h.imp (fun z => ⟨s _ _ z.1, s _ _ z.2⟩) (fun z => ⟨s _ _ z.1, s _ _ z.2⟩), hl, fun i z w e1 e2 => (q i z w e1 e2).same s⟩
theorem AlkV.flat {H : Hp} {d : Nat} {x : V} (h : flatV x = true) : AlkV H d x x := by
  cases d with
  | zero => exact ⟨h, rfl⟩
  | succ d => exact .inl ⟨h, rfl⟩
theorem AlkV.lst {H : Hp} {d : Nat} {a b : Addr} {xs : List V} (h1 : H a = some (.lst xs)) (h2 : H b = some (.lst xs)) (f : xs.all flatV = true) : AlkV H (d + 1) (.ref a) (.ref b) :=
  .inr ⟨a, b, xs, xs, rfl, rfl, .inl ⟨h1, h2⟩, rfl, fun i z w e1 e2 => by
    rw [e1] at e2; cases e2
    exact .flat (List.all_eq_true.mp f _ (List.mem_of_getElem? e1))⟩
theorem AlkV.tup {H : Hp} {d : Nat} {a b : Addr} {xs : List V} (h1 : H a = some (.tup xs)) (h2 : H b = some (.tup xs)) (f : xs.all flatV = true) : AlkV H (d + 1) (.ref a) (.ref b) :=
  .inr ⟨a, b, xs, xs, rfl, rfl, .inr ⟨h1, h2⟩, rfl, fun i z w e1 e2 => by
    rw [e1] at e2; cases e2
    exact .flat (List.all_eq_true.mp f _ (List.mem_of_getElem? e1))⟩
theorem eqV_self {x : V} (h : flatV x = true) : eqV x x = true := by
  cases x <;> simp_all [eqV, flatV]
theorem vals_at {xs : List V} {us : List Value} (r : Vals xs us) {j : Nat} (h : j < us.toArray.size) : ∃ z, xs[j]? = some z ∧ RelV z us.toArray[j] := by
  have l := r.length
  have k : j < xs.length := by rw [l]; simpa using h
  obtain ⟨u, hu, ru⟩ := r.get (List.getElem?_eq_getElem k)
  have e : us.toArray[j] = u := by
    have z : us[j]? = some (us[j]'(by simpa using h)) := List.getElem?_eq_getElem _
    rw [z] at hu
    simpa using hu
  exact ⟨_, List.getElem?_eq_getElem k, by rw [e]; exact ru⟩
theorem all_true {n : Nat} : (List.range n).all (fun _ => true) = true := by simp
section
variable {X : Cx} {pins : List (Addr × Obj)} {σ : St} {H : Hp} {s : Shared}
theorem eqAt_alk (I : Inv X pins σ H s) : ∀ (d : Nat) (A : Around) (x y : V) (v u : Value), A.units + d < cLine → AlkV H d x y → RelV x v → RelV y u → SeqAt.EqAt A s v u true := by
  intro d
  induction d with
  | zero =>
    intro A x y v u hu h rx ry
    obtain ⟨f, rfl⟩ := h
    have z := eqAt_V (A := A) (s := s) rx ry f f
    rwa [eqV_self f] at z
  | succ d ih =>
    intro A x y v u hu h rx ry
    rcases h with ⟨f, rfl⟩ | ⟨a, b, xs, ys, rfl, rfl, h, hl, q⟩
    · have z := eqAt_V (A := A) (s := s) rx ry f f
      rwa [eqV_self f] at z
    · cases rx
      cases ry
      by_cases ab : a = b
      · subst ab; exact SeqAt.EqAt.same _
      · refine SeqAt.EqAt.of_refs ab ?_
        rcases h with ⟨h1, h2⟩ | ⟨h1, h2⟩
        · obtain ⟨us, r1, p1, _⟩ := I.list (.of h1)
          obtain ⟨ws, r2, p2, _⟩ := I.list (.of h2)
          have z := SeqAt.RcAt.lists (A := A) p1.isList p2.isList (e := fun _ => true) (by simp [← r1.length, ← r2.length, hl]) (by omega) (fun j k1 k2 => by
            obtain ⟨z, e1, rz⟩ := vals_at r1 k1
            obtain ⟨w, e2, rw⟩ := vals_at r2 k2
            exact ih A.in1 z w _ _ (by show A.units + 1 + d < cLine; omega) (q j z w e1 e2) rz rw)
          rwa [all_true] at z
        · obtain ⟨us, r1, p1, _⟩ := I.tuple (.of h1)
          obtain ⟨ws, r2, p2, _⟩ := I.tuple (.of h2)
          have z := SeqAt.RcAt.tuples (A := A) (show s.heap.IsTuple a us.toArray from p1) (show s.heap.IsTuple b ws.toArray from p2) (e := fun _ => true) (by omega) (fun j k1 k2 => by
            obtain ⟨z, e1, rz⟩ := vals_at r1 k1
            obtain ⟨w, e2, rw⟩ := vals_at r2 k2
            exact ih A.in1 z w _ _ (by show A.units + 1 + d < cLine; omega) (q j z w e1 e2) rz rw)
          have e : (us.toArray.size == ws.toArray.size) = true := by simp [← r1.length, ← r2.length, hl]
          rw [all_true, e] at z
          exact z
def rEqD : R2 := fun x y H Q => (∃ a, x = .ref a) ∧ AlkV H 9 x y ∧ Q (.bl true) H
def rNeD : R2 := fun x y H Q => (∃ a, x = .ref a) ∧ AlkV H 9 x y ∧ Q (.bl false) H
theorem op_neD (hu : X.A.units + 20 < cLine) : OpR X (compareOp .NotEq) rNeD := by
  intro pins s σ H x y v u Q I rx ry h
  obtain ⟨⟨a, rfl⟩, h, q⟩ := h
  rcases h with ⟨f, _⟩ | ⟨a', b, xs, ys, e, rfl, h, hl, al⟩
  · simp [flatV] at f
  · cases e
    cases rx
    cases ry
    have fin : EP X pins σ Q (.bool false) s := ⟨.bl false, H, I, rfl, q⟩
    rcases h with ⟨h1, h2⟩ | ⟨h1, h2⟩
    · obtain ⟨us, r1, p1, _⟩ := I.list (.of h1)
      obtain ⟨ws, r2, p2, _⟩ := I.list (.of h2)
      refine SeqAt.RcNeAt.lists p1.isList p2.isList (e := fun _ => true) (by simp [← r1.length, ← r2.length, hl]) (by omega) (fun j k1 k2 => ?_) _ _ _ _ (by rw [all_true]; exact fin)
      obtain ⟨z, e1, rz⟩ := vals_at r1 k1
      obtain ⟨w, e2, rw⟩ := vals_at r2 k2
      exact eqAt_alk I 8 X.A.in1 z w _ _ (by show X.A.units + 1 + 8 < cLine; omega) (al j z w e1 e2) rz rw
    · obtain ⟨us, r1, p1, _⟩ := I.tuple (.of h1)
      obtain ⟨ws, r2, p2, _⟩ := I.tuple (.of h2)
      have e : (us.toArray.size == ws.toArray.size) = true := by simp [← r1.length, ← r2.length, hl]
      refine SeqAt.RcNeAt.tuples (show s.heap.IsTuple a us.toArray from p1) (show s.heap.IsTuple b ws.toArray from p2) (e := fun _ => true) (by omega) (fun j k1 k2 => ?_) _ _ _ _ (by rw [all_true, e]; exact fin)
      obtain ⟨z, e1, rz⟩ := vals_at r1 k1
      obtain ⟨w, e2, rw⟩ := vals_at r2 k2
      exact eqAt_alk I 8 X.A.in1 z w _ _ (by show X.A.units + 1 + 8 < cLine; omega) (al j z w e1 e2) rz rw
end
theorem hu20 {k : Nat} {A : Around} (r : Room k A) : A.units + 20 < cLine := by have := r.un; omega
section
variable {X : Cx}
def iSeq (K : PySem.W.Frag) (tl : TE) : TI := fun σ H R => tl σ H fun x H1 => (∃ a, x = .ref a ∧ (∃ xs, SqL K H1 a xs) ∧ R (Itl K a) H1) ∨ (∃ a, x = .ref a ∧ (∃ xs, SqT K H1 a xs) ∧ R (Itt K a) H1)
theorem pi_seq {tg l : Expr} {tl : TE} (hl : PE X l tl) : PI X tg l (iSeq X.K tl) := by
  intro pins s σ H R I h
  refine thn (hl pins s σ H _ I h) fun v s1 ⟨x, H1, I1, r1, q1⟩ => ?_
  rcases q1 with ⟨a, e, ⟨xs, hq⟩, q⟩ | ⟨a, e, ⟨xs, hq⟩, q⟩
  · subst e
    cases r1
    obtain ⟨its, rv, p, hz⟩ := I1.list hq
    refine wpAny_pyIter_list p.isList ?_
    refine ⟨s1.heap.objs.size, [s1.heap.objs.size], _, _, H1, rfl, I1.kept (t' := s1.toks) fun b o e => Heap.get?_push_of_some _ e, turn_list a _, ⟨_, Heap.get?_push_size _ rfl, rfl, rfl⟩, fun b hb => ?_, q⟩
    have e : b = s1.heap.objs.size := by simpa using hb
    subst e
    exact I1.fpOk (Nat.le_refl _) (I1.hok.fresh (Nat.le_refl _))
  · subst e
    cases r1
    obtain ⟨its, rv, p, hz⟩ := I1.tuple hq
    refine wpAny_pyIter_tuple (show s1.heap.IsTuple a its.toArray from p) ?_
    refine ⟨s1.heap.objs.size, [s1.heap.objs.size], _, _, H1, rfl, I1.kept (t' := s1.toks) fun b o e => Heap.get?_push_of_some _ e, turn_tuple a _, ⟨_, Heap.get?_push_size _ rfl, rfl, rfl⟩, fun b hb => ?_, q⟩
    have e : b = s1.heap.objs.size := by simpa using hb
    subst e
    exact I1.fpOk (Nat.le_refl _) (I1.hok.fresh (Nat.le_refl _))
theorem for_eqQ {K : PySem.W.Frag} {te : TE} {g : TG} {tb : TS} {D : Ends} {σ : St} {H : Hp} : tFor (iSeq K te) g tb D σ H = te σ H fun x H1 => LoopL K g tb D σ x H1 ∨ LoopT K g tb D σ x H1 := rfl
theorem comp_eqQ {K : PySem.W.Frag} {k : Nat} {js : List Nat} {ti : TE} {g : TG} {te : TE} {σ : St} {H : Hp} {Q : VK} : tComp (iSeq K ti) k js g te σ H Q = ti σ H fun x H1 => CompL K k js g te σ x H1 Q ∨ CompT K k js g te σ x H1 Q := rfl
end
end L2
namespace L2
open PySem PySem.Spec PyProof.Rows
def Itrl (K : PySem.W.Frag) (a : Addr) (n : Nat) : It := ⟨fun i H => ∃ xs, SqL K H a xs ∧ xs.length = n ∧ i < n, fun i H x H' => H' = H ∧ ∀ xs, SqL K H a xs → xs[n - 1 - i]? = some x, fun i H => ∃ xs, SqL K H a xs ∧ xs.length = n ∧ i = n⟩
section
variable {X : Cx} {tg : Expr}
def iRevL (K : PySem.W.Frag) (te : TE) : TI := fun σ H R => te σ H fun x H1 => ∃ a xs, x = .ref a ∧ SqL K H1 a xs ∧ R (Itrl K a xs.length) H1
end
def LoopVL (K : PySem.W.Frag) (g : TG) (tb : TS) (D : Ends) (σ : St) (x : V) (H1 : Hp) : Prop := ∃ a xs, x = .ref a ∧ SqL K H1 a xs ∧ ∃ W : Nat → Nat → St → Hp → Prop, (∃ m, W 0 m σ H1) ∧ ∀ i m σ H, W i m σ H →
  ((Itrl K a xs.length).stop i H ∧ D.nx σ H) ∨ ((Itrl K a xs.length).go i H ∧ ∃ N : St → Hp → Prop, (∀ σ' H', N σ' H' → ∃ m', m' < m ∧ W (i + 1) m' σ' H') ∧ ∀ x H', (Itrl K a xs.length).yld i H x H' → g x σ H' fun σ2 H2 => tb { D with nx := N, ct := N, bk := D.nx } σ2 H2)
theorem for_eqVL {K : PySem.W.Frag} {te : TE} {g : TG} {tb : TS} {D : Ends} {σ : St} {H : Hp} : tFor (iRevL K te) g tb D σ H = te σ H fun x H1 => LoopVL K g tb D σ x H1 := rfl
theorem LoopVL.mk {K : PySem.W.Frag} {a : Addr} {xs : List V} {g : TG} {tb : TS} {D : Ends} {σ : St} {H : Hp} (hS : SqL K H a xs) (Pv : Nat → St → Hp → Prop) (h0 : Pv 0 σ H) (hl : ∀ i σ H, i ≤ xs.length → Pv i σ H → SqL K H a xs)
    (hs : ∀ i x σ H, i < xs.length → xs[xs.length - 1 - i]? = some x → Pv i σ H → g x σ H fun σ2 H2 => tb { D with nx := Pv (i + 1), ct := Pv (i + 1), bk := D.nx } σ2 H2) (hd : ∀ σ H, Pv xs.length σ H → D.nx σ H) : LoopVL K g tb D σ (.ref a) H := by
  refine ⟨a, xs, rfl, hS, fun i m σ H => m = xs.length - i ∧ i ≤ xs.length ∧ Pv i σ H, ⟨xs.length, by simp, Nat.zero_le _, h0⟩, ?_⟩
  rintro i m σ H ⟨rfl, hi, p⟩
  have q := hl i σ H hi p
  by_cases hlt : i < xs.length
  · refine .inr ⟨⟨xs, q, rfl, hlt⟩, Pv (i + 1), fun σ' H' p' => ⟨xs.length - (i + 1), by omega, rfl, hlt, p'⟩, fun x H' y => ?_⟩
    obtain ⟨e, y⟩ := y
    subst e
    exact hs i x σ _ hlt (y xs q) p
  · have e : i = xs.length := by omega
    subst e
    exact .inl ⟨⟨xs, q, rfl, rfl⟩, hd σ H p⟩
end L2
namespace L2
open PySem PySem.Spec PyProof.Rows PySem.W PySem.Calls
def catchA (K : PySem.W.Frag) : List (Addr × Nat × TS) → Value → (Nat → TS → Prop) → Prop
  | [], _, _ => False
  | (C, i, ts) :: r, c, k => (PySem.W.exmOne K c (.ref C) = some true ∧ k i ts) ∨ (PySem.W.exmOne K c (.ref C) = some false ∧ catchA K r c k)
def caughtA (K : PySem.W.Frag) (cs : List (Addr × Nat × TS)) (D : Ends) : St → XK := fun σ1 c _ H1 => ∃ C', c = .ref C' ∧ catchA K cs c fun i ts => ∀ a, H1 a = none → ts (goneEnds D i) (σ1.set i (some (.ref a))) (upd H1 a (ExcO a C'))
def tTryA (K : PySem.W.Frag) (cs : List (Addr × Nat × TS)) (tb : (St → XK) → TS) : TS := fun D σ H => tb (caughtA K cs D) D σ H
inductive ClausesA (X : Cx) : List ExceptHandler → List (Addr × Nat × TS) → Prop
  | nil : ClausesA X [] []
  | cons {x n : Str} {C : Addr} {i : Nat} {b₀ : Stmt} {suite : List Stmt} {np hpos : Pos} {ts : TS} {r : List ExceptHandler} {tr : List (Addr × Nat × TS)} (hi : X.N[i]? = some n) (hk : X.env.scope.names.lookup n = some .local) (hg : Gl X x) (hn : PySem.W.nsIn X.K mainGlobals x = some (some (.ref C)))
      (hs : ∀ (a : Addr) (pn : List (Addr × Obj)), PSs (X.suite a pn) (b₀ :: suite) ts) (hr : ClausesA X r tr) (hd : (x == ("__debug__" : Str)) = false) : ClausesA X (.ExceptHandler (some (.Name x np)) (some n) (b₀ :: suite) hpos :: r) ((C, i, ts) :: tr)
theorem ps_tryA {X : Cx} {body : List Stmt} {h₀ : ExceptHandler} {hl : List ExceptHandler} {cs : List (Addr × Nat × TS)} {pos : Pos} {tb : (St → XK) → TS} (hstk : X.stack = X.env :: X.outer ∧ X.env.frame = some X.env.locals) (hex : X.ex = []) (hN : X.N.Nodup)
    (hb : ∀ (xe : Value → Shared → Prop) (pn : List (Addr × Obj)) (EE : St → XK), (∀ σ, PassesAt (CX1 X.prog X.w) (X.more xe pn) (EE σ) σ) → PSs (X.more xe pn) body (tb EE)) (hc : ClausesA X (h₀ :: hl) cs) :
    PS X (.Try body (h₀ :: hl) [] [] pos) (tTryA X.K cs tb) := by
  intro pins s σ H D I h
  refine wpAny_Try_except ?_
  generalize hXE : (fun e s₁ => wpAny (model X.prog X.w) X.A (noteFrame e X.env) (fun _ s₂ => wpAny (model X.prog X.w) X.A (setFlight e none) (fun _ s₃ => wpAny (model X.prog X.w) X.A (handleBy e X.env (h₀ :: hl)) (SP X pins D) X.xe s₃) X.xe s₂) X.xe s₁ : Value → Shared → Prop) = XE
  have toY : ∀ {σ' : St} {H' : Hp} {s' : Shared}, Inv X pins σ' H' s' → Inv (X.more XE (X.pn ++ pins)) [] σ' H' s' := fun J => ⟨J.ok.more _ _, J.os, J.bare, J.base, J.loc, J.cell, J.free, J.freeC, fun p hp => J.pin p (by simpa using hp), J.hok, J.len⟩
  have ofY : ∀ {σ' : St} {H' : Hp} {s' : Shared} {pp : List (Addr × Obj)}, Inv (X.more XE (X.pn ++ pins)) pp σ' H' s' → Inv X pins σ' H' s' := fun J => ⟨I.ok, J.os, J.bare, J.base, J.loc, J.cell, J.free, J.freeC, fun p hp => J.pin p (List.mem_append_left _ hp), J.hok, J.len⟩
  have body_ok := hb XE (X.pn ++ pins) (caughtA X.K cs D) ?_ [] s σ H D (toY I) h
  · refine thn body_ok fun fl s' q => ?_
    cases fl with
    | next => obtain ⟨σ', H', J, z⟩ := q; exact wpAny_execs_nil ⟨σ', H', ofY J, z⟩
    | brk => obtain ⟨σ', H', J, z⟩ := q; exact ⟨σ', H', ofY J, z⟩
    | cont => obtain ⟨σ', H', J, z⟩ := q; exact ⟨σ', H', ofY J, z⟩
    | ret u => obtain ⟨v, σ', H', J, r, z⟩ := q; exact ⟨v, σ', H', ofY J, r, z⟩
  intro σ1 pins1 H1 s1 e s' I1 hx
  obtain ⟨a, C', a0, H', B, rfl, os, bare, fl, inB, thB, un, okB, C2, hC2, hcatch⟩ := hx
  obtain rfl : C' = C2 := Value.ref.inj hC2
  have hcatch : catchA X.K cs (.ref C') fun i ts => ∀ a, H' a = none → ts (goneEnds D i) (σ1.set i (some (.ref a))) (upd H' a (ExcO a C')) := hcatch
  subst hXE
  have fl : Heap.FlyingW B (X.env :: X.outer) a (.ref C') a0 s'.heap := by
    have z : Heap.FlyingW B X.stack a (.ref C') a0 s'.heap := fl
    rw [hstk.1] at z; exact z
  have hfr : X.A.frames = some (X.env :: X.outer) := by rw [I.ok.frames, hstk.1]
  have at_ : ∀ h2 : Heap, Heap.FlyingW B (X.env :: X.outer) a (.ref C') a0 h2 → s'.heap.UpToSlots h2 → ∀ t2 : Nat, Inv X pins σ1 H' { s' with heap := h2, toks := t2 } := fun h2 f2 u2 t2 => by
    have J1 : Inv X pins σ1 H1 s1 := ofY I1
    have slot : ∀ b o, s1.heap.get? b = some o → H1 b = none → b ∈ frs X.stack → ∃ sl, h2.get? b = some { o with slots := sl } := fun b o e nn hb => by
      obtain ⟨sl2, e2⟩ := un.slot b o e nn hb (by simp)
      obtain ⟨_, o3, e3, nf⟩ := J1.stack.mem hb
      rw [e] at e3; cases e3
      obtain ⟨sl3, e4⟩ := u2 b _ e2 nf
      exact ⟨sl3, e4⟩
    refine J1.call' (s' := { s' with heap := h2, toks := t2 }) (ch := []) os ⟨fun b o e nn hb _ => f2.1 _ _ (inB b o e nn hb), fun b o e nn hb _ => slot b o e nn hb, un.free, fun b o e _ => ?_, un.tups, un.frzs, un.tbls⟩ (okB.kept f2.1) bare (fun b z => nomatch z)
    by_cases hb : b ∈ frs X.stack
    · obtain ⟨sl, q⟩ := slot b o e (J1.stkFree b hb) hb
      exact ⟨_, q⟩
    · obtain ⟨o', q⟩ := thB b o e hb
      exact ⟨o', f2.1 _ _ q⟩
  refine wpAny_looks_onW hfr hstk.2 fl fun h4 held4 up4 => ?_
  refine wpAny_landsW held4 fun h5 fl5 up5 => ?_
  have J5 := at_ h5 fl5 (up4.trans up5) s'.toks
  obtain ⟨oe5, ve5, he5, hc5, hd5, _⟩ := fl5.first
  have toZ : ∀ {σ' : St} {H' : Hp} {s' : Shared}, Inv X pins σ' H' s' → Inv (X.suite a (X.pn ++ pins)) [] σ' H' s' := fun J => ⟨J.ok.suite _ _, J.os, J.bare, J.base, J.loc, J.cell, J.free, J.freeC, fun p hp => J.pin p (by simpa using hp), J.hok, J.len⟩
  have ofZ : ∀ {σ' : St} {H' : Hp} {s' : Shared}, Inv (X.suite a (X.pn ++ pins)) [] σ' H' s' → Inv X pins σ' H' s' := fun J => ⟨I.ok, J.os, J.bare, J.base, J.loc, J.cell, J.free, J.freeC, fun p hp => J.pin p (List.mem_append_left _ hp), J.hok, J.len⟩
  have LT : Looks (model X.prog X.w) h5 (typeOf (.ref a)) (.ref C') := hc5 ▸ (Looks.ld he5).andThen .now
  have all : ∀ (hs' : List ExceptHandler) (cs' : List (Addr × Nat × TS)), ClausesA X hs' cs' → (catchA X.K cs' (.ref C') fun i ts => ∀ a, H' a = none → ts (goneEnds D i) (σ1.set i (some (.ref a))) (upd H' a (ExcO a C'))) → wpAny (model X.prog X.w) X.A (handleBy (.ref a) X.env hs') (SP X pins D) X.xe { s' with heap := h5 } := by
    intro hs' cs' hcl
    induction hcl with
    | nil => intro z; exact z.elim
    | @cons x n C i b₀ suite np hpos ts r tr hi hk hg hn hs hr hd ih =>
      intro z
      have bnd := PySem.W.mg_of J5.ok.mod.kin J5.ok.mod.glob hn
      refine wpAny_handleBy_cons (codeAny_handlers_test ?_) (by intro q; cases q)
      refine ld_glob (X := X.suite a (X.pn ++ pins)) (toZ J5) hg bnd ?_ hd
      rcases z with ⟨z1, z2⟩ | ⟨z1, z2⟩
      · refine (PySem.W.exm_one (M := model X.prog X.w) J5.kIn LT z1).here ?_
        refine codeAny_handlers_suite_as ?_
        refine lands_againW fl5 fun h6 fl6 up6 => ?_
        have J6 := at_ h6 fl6 ((up4.trans up5).trans up6) s'.toks
        obtain ⟨oe, ve, hoe, hoc, hod, _⟩ := fl6.first
        have Ba : B.get? a = none := fl6.2.1
        have Ha : H' a = none := by
          cases q : H' a with
          | none => rfl
          | some u =>
            have z : a < B.objs.size := okB.lt q
            have y := okB a u q
            obtain ⟨o9, e9⟩ : ∃ o9, B.get? a = some o9 := by
              cases u with
              | lst xs => obtain ⟨_, _, _, _, e⟩ := y; exact ⟨_, e⟩
              | tup xs => obtain ⟨_, _, _, o, e, _⟩ := y; exact ⟨_, e⟩
              | dK kvs => obtain ⟨_, _, _, _, o, _, _, e, _⟩ := y; exact ⟨_, e⟩
              | dT kvs => obtain ⟨_, _, _, _, o, _, _, e, _⟩ := y; exact ⟨_, e⟩
              | set S n => obtain ⟨o, _, _, _, e, _⟩ := y; exact ⟨_, e⟩
              | ins C dx fs => obtain ⟨_, _, _, e, _⟩ := y; exact ⟨_, e⟩
              | own y' => obtain ⟨_, e⟩ := y; exact ⟨_, e⟩
              | xd fs => obtain ⟨_, ⟨_, _, _, e, _⟩, _⟩ := y; exact ⟨_, e⟩
              | rng lo hi => obtain ⟨_, _, _, e⟩ := y; exact ⟨_, e⟩
              | frz ob u => obtain ⟨e, _⟩ := y; exact ⟨_, e⟩
              | tbl ps => exact ⟨_, (show B.get? a = some _ from y)⟩
              | met f y' => exact ⟨_, (show B.get? a = some _ from y)⟩
              | ext φ => obtain ⟨_, ⟨_, e⟩, _⟩ := y; exact ⟨_, e⟩
            rw [Ba] at e9; cases e9
        have J1 : Inv X pins σ1 H1 s1 := ofY I1
        have notfields : ∀ b o, h6.get? b = some o → (∀ vs, o.data ≠ .fields vs) → b ≠ a := fun b o e nf z => by
          rw [z, hoe] at e; cases e; exact nf _ hod
        obtain ⟨mL, ⟨oL, esL, epL, hoL, hdL, _⟩, _⟩ := id J6.loc
        have aL : a ≠ X.env.locals := fun z => (notfields X.env.locals oL hoL fun vs q => by rw [hdL] at q; cases q) z.symm
        have ac : ∀ y c, X.env.cells.lookup y = some c → c ≠ a := fun y c e => by
          obtain ⟨v, o, ho, hdc⟩ := J6.cell y c e
          exact notfields c o ho fun vs q => by rw [hdc] at q; cases q
        have inB2 : ∀ b o, s1.heap.get? b = some o → H1 b = none → b ∉ frs X.stack → b ≠ a := fun b o e nn hb z => by
          have q := inB b o e nn hb
          rw [z, Ba] at q; cases q
        have nstk : ∀ b, b ≠ X.env.locals → b ∉ X.fs → b ∉ frs X.stack := fun b h1 h2 z => by
          rcases List.mem_cons.mp (J1.stkSub b z) with q | q
          · exact h1 q
          · exact h2 q
        have ap : ∀ p ∈ X.pn ++ pins, p.1 ≠ a := fun p hp => by
          obtain ⟨e, nn, ne, nf, _⟩ := J1.pin p hp
          exact inB2 p.1 p.2 e nn (nstk p.1 ne nf)
        have a0n : X.s₀.heap.get? a = none := by
          cases q : X.s₀.heap.get? a with
          | none => rfl
          | some o =>
            by_cases hx : a ∈ X.ex
            · rw [hex] at hx; cases hx
            · obtain ⟨o1, e1⟩ := J1.base.there a o q hx
              by_cases hf : a ∈ frs X.stack
              · obtain ⟨_, o3, e3, nf⟩ := J6.stack.mem hf
                exact absurd rfl (notfields a o3 e3 nf)
              · obtain ⟨o', q'⟩ := thB a o1 e1 hf
                rw [Ba] at q'; cases q'
        have J7 : Inv X pins σ1 (upd H' a (ExcO a C')) { s' with heap := h6 } := J6.track Ha ⟨⟨oe, ve, hoe, hoc, hod⟩, ⟨oe, hoe⟩, fun k1 k2 ⟨o, vs, e, c, d⟩ kk => ⟨o, vs, kk o e, c, d⟩⟩ aL ac ap a0n
        refine store_ok (X := X.suite a (X.pn ++ pins)) (v := .ref a) (toZ J7) hN hi (.inl hk) rfl (fun s8 J8 => ?_) (.inr hk)
        refine wpAny_mono (hs a (X.pn ++ pins) [] s8 _ _ _ J8 (z2 a Ha)) (fun fl s9 q => ?_) fun _ _ z => z.elim
        have hcls : (X.env.scope.kind == .class || (X.env.scope.kind == .module && X.env.locals != X.env.globals)) = false := by rw [I.ok.kind]; rfl
        have gone : ∀ {σ9 : St} {H9 : Hp} {QQ : Unit → Shared → Prop}, Inv (X.suite a (X.pn ++ pins)) [] σ9 H9 s9 → (∀ s10, Inv X pins (σ9.set i none) H9 s10 → QQ () s10) → wpAny (model X.prog X.w) X.A (do bindName X.env n .none; unbindBehindTheSuite X.env n hpos) QQ X.xe s9 := fun {σ9 H9 QQ} J9 k => by
          have J9' := ofZ J9
          obtain ⟨m, hm, hl⟩ := id J9'.loc
          exact wpAny_nameGoes_keeps hk hm hcls fun h' v hn' hs' => k _ (J9'.gone hN hi hk hm hl hn' hs')
        cases fl with
        | next => obtain ⟨σ9, H9, J9, z⟩ := q; exact gone J9 fun s10 J10 => ⟨_, H9, J10, z⟩
        | brk => obtain ⟨σ9, H9, J9, z⟩ := q; exact gone J9 fun s10 J10 => ⟨_, H9, J10, z⟩
        | cont => obtain ⟨σ9, H9, J9, z⟩ := q; exact gone J9 fun s10 J10 => ⟨_, H9, J10, z⟩
        | ret u => obtain ⟨v, σ9, H9, J9, r, z⟩ := q; exact gone J9 fun s10 J10 => ⟨v, _, H9, J10, r, z⟩
      · refine (PySem.W.exm_one (M := model X.prog X.w) J5.kIn LT z1).here ?_
        exact ih z2
  exact all _ _ hc hcatch
end L2
namespace L2
open PySem PySem.Spec PyProof.Rows PySem.W PySem.Calls
section
variable {M : Model} {A : Around} {E : Value → Shared → Prop} {s₀ s : Shared} {m cm : Str → Option Value} {env : Env} {cs : List (Str × Addr)}
end
section
variable {M : Model} {A : Around} {E : Value → Shared → Prop} {s : Shared}
end
def CelO (c : Addr) (v : V) : HO := .ext fun h => ∃ u, RelV v u ∧ h.IsCell c (some u)
def CodO (c : Addr) (qual : Str) : HO := .ext fun h => h.CodeRec (.ref c) qual
def LamO (fa c' : Addr) (qual : Str) (params : Arguments) (body : Expr) (scope : Scope) (cl : List (Str × Addr)) : HO := .ext fun h => ∃ pm ctv, h.get? fa = some (kla_obj "<lambda>" qual params body scope cl pm c' ctv)
structure CelAt (H : Hp) (cl : List (Str × Addr)) (vcs : List V) : Prop where
  len : cl.length = vcs.length
  at_ : ∀ (i : Nat) q, cl[i]? = some q → ∃ v o, vcs[i]? = some v ∧ H q.2 = some (.frz o (CelO q.2 v))
  apart : cl.Pairwise fun x y => x.2 ≠ y.2
theorem CelAt.mem {H : Hp} {cl : List (Str × Addr)} {vcs : List V} (h : CelAt H cl vcs) {q : Str × Addr} (hq : q ∈ cl) : ∃ o v, H q.2 = some (.frz o (CelO q.2 v)) := by
  obtain ⟨i, e⟩ := List.mem_iff_getElem?.mp hq
  obtain ⟨v, o, _, e2⟩ := h.at_ i q e
  exact ⟨o, v, e2⟩
theorem CelAt.same {H H' : Hp} {cl : List (Str × Addr)} {vcs : List V} (h : CelAt H cl vcs) (s : ∀ a o, H a = some o → H' a = some o) : CelAt H' cl vcs :=
  ⟨h.len, fun i q e => let ⟨v, o, e1, e2⟩ := h.at_ i q e; ⟨v, o, e1, s _ _ e2⟩, h.apart⟩
structure LmScope (N ps fv : List Str) (sc : Scope) : Prop where
  kind : sc.kind = .function
  co : sc.isCoroutine = false
  gen : sc.isGenerator = false
  nd : N.Nodup
  pre : N.take (ps ++ fv).length = ps ++ fv
  par : ∀ x ∈ ps, sc.names.lookup x = some .local ∨ sc.names.lookup x = some .cell
  fre : ∀ x ∈ fv, sc.names.lookup x = some .free
  has : ∀ y ∈ sc.names, y.2 = .free → y.1 ∈ fv
  own : ∀ x ∈ fv, ∀ y ∈ sc.names, y.2 = .cell → y.1 ≠ x
def CallV (P : Program) (w : World) (K : PySem.W.Frag) (mg : Str → Option Value) (base : Heap) (k : Nat) (fa : Addr) (vs : List V) (H : Hp) (Q : VK) : Prop :=
  ∀ (A : Around) (outer : List Env) (s : Shared) (us : List Value), Room k A → Env0 P w K mg base A outer s H → Vals vs us → codeAny (model P w) A (.call (.ref fa) ⟨us, []⟩) (CR CX0 outer P w H s Q fun _ _ _ => False) s
end L2
namespace L2
open PySem PySem.Spec PyProof.Rows PySem.W PySem.Calls
def FnV (H : Hp) (fa : Addr) : Prop := ∃ φ, H fa = some (.ext φ) ∧ ∀ h, φ h → FnAt fa h
theorem FnV.same {H H' : Hp} {fa : Addr} (h : FnV H fa) (s : ∀ o, H fa = some o → H' fa = some o) : FnV H' fa := let ⟨φ, e, k⟩ := h; ⟨φ, s _ e, k⟩
def tCalV (P : Program) (w : World) (K : PySem.W.Frag) (mg : Str → Option Value) (base : Heap) (k i : Nat) (t : TA) : TE := fun σ H Q => ∃ fa, σ[i]? = some (some (.ref fa)) ∧ FnV H fa ∧ t σ H fun vs H1 => FnV H1 fa ∧ CallV P w K mg base k fa vs H1 Q
section
variable {X : Cx} {k : Nat} {x : Str} {p pos : Pos} {e : Expr} {es : List Expr} {t : TA}
end
def OwnCl (ec : List (Str × Addr)) (fv : List Str) (cl : List (Str × Addr)) : Prop := cl.map (·.1) = fv ∧ ∀ q ∈ cl, ec.lookup q.1 = some q.2
def TabOk (H : Hp) (T : Addr) (pos : Pos) (qual : Str) : Prop := ∃ ps, H T = some (.tbl ps) ∧ TriplesOk ps.toList ∧ (codeAmong pos ps.toList = none ∨ ∃ c', codeAmong pos ps.toList = some (.ref c') ∧ H c' = some (CodO c' qual))
theorem TabOk.same {H H' : Hp} {T : Addr} {pos : Pos} {qual : Str} (h : TabOk H T pos qual) (s : ∀ a o, H a = some o → H' a = some o) : TabOk H' T pos qual := by
  obtain ⟨ps, e, t, z⟩ := h
  exact ⟨ps, s _ _ e, t, z.imp id fun ⟨c', a, b⟩ => ⟨c', a, s _ _ b⟩⟩
structure TabF (base : Heap) (mg : Str → Option Value) (c T : Addr) : Prop where
  hd : CodeHd base c T
  none_ : base.get? T = none
  blt : ∃ bm o, mg "__builtins__" = some (.ref bm) ∧ bm ≠ builtinsNs ∧ bm ≠ mainGlobals ∧ bm ≠ T ∧ base.get? bm = some o ∧ o.cls = .type "module" ∧ o.dict = some builtinsNs ∧ o.data = .plain
  ne : mainGlobals ≠ T
def tLam (ec : List (Str × Addr)) (fv : List Str) (T : Addr) (pos : Pos) (qual : Str) (params : Arguments) (body : Expr) (scope : Scope) : TE := fun _ H Q => TabOk H T pos qual ∧
  ∀ fa c' cl H2, OwnCl ec fv cl → H fa = none → H2 fa = some (LamO fa c' qual params body scope cl) → H2 c' = some (CodO c' qual) → TabOk H2 T pos qual → (∀ b o, b ≠ T → H b = some o → H2 b = some o) → Q (.ref fa) H2
section
variable {X : Cx} {params : Arguments} {body : Expr} {scope : Scope} {pos : Pos} {fv : List Str} {c T : Addr} {cl : List (Str × Addr)}
end
end L2
namespace L2
open PySem PySem.Spec PyProof.Rows PySem.W PySem.Calls
theorem CallV.mono {P : Program} {w : World} {K : PySem.W.Frag} {mg : Str → Option Value} {base : Heap} {j k : Nat} {fa : Addr} {vs : List V} {H : Hp} {Q : VK} (h : CallV P w K mg base j fa vs H Q) (l : j ≤ k) : CallV P w K mg base k fa vs H Q :=
  fun A outer s us hr e0 r => h A outer s us (hr.mono l) e0 r
end L2
namespace L2
open PySem PySem.Spec PyProof.Rows
def LoopE (K : PySem.W.Frag) (g : TG) (tb : TS) (D : Ends) (σ : St) (v : V) (H1 : Hp) : Prop := ∃ a xs, v = .ref a ∧ SqT K H1 a xs ∧ ∃ W : Nat → Nat → St → Hp → Prop, (∃ m, W 0 m σ H1) ∧ ∀ i m σ H, W i m σ H →
  ((Ite K a).stop i H ∧ D.nx σ H) ∨ ((Ite K a).go i H ∧ ∃ N : St → Hp → Prop, (∀ σ' H', N σ' H' → ∃ m', m' < m ∧ W (i + 1) m' σ' H') ∧ ∀ x H', (Ite K a).yld i H x H' → g x σ H' fun σ2 H2 => tb { D with nx := N, ct := N, bk := D.nx } σ2 H2)
theorem for_eqE {K : PySem.W.Frag} {te : TE} {g : TG} {tb : TS} {D : Ends} {σ : St} {H : Hp} : tFor (iEnum K te) g tb D σ H = te σ H fun v H1 => LoopE K g tb D σ v H1 := rfl
theorem LoopE.mk {K : PySem.W.Frag} {a : Addr} {xs : List V} {g : TG} {tb : TS} {D : Ends} {σ : St} {H : Hp} (h1 : SqT K H a xs) (Pv : Nat → St → Hp → Prop) (h0 : Pv 0 σ H) (hl : ∀ i σ H, i ≤ xs.length → Pv i σ H → SqT K H a xs)
    (hs : ∀ i x σ H T, xs[i]? = some x → Pv i σ H → H T = none → g (.ref T) σ (upd H T (.tup [.int i, x])) fun σ2 H2 => tb { D with nx := Pv (i + 1), ct := Pv (i + 1), bk := D.nx } σ2 H2) (hd : ∀ σ H, Pv xs.length σ H → D.nx σ H) :
    LoopE K g tb D σ (.ref a) H := by
  refine ⟨a, xs, rfl, h1, fun i m σ H => m = xs.length - i ∧ i ≤ xs.length ∧ Pv i σ H, ⟨_, rfl, Nat.zero_le _, h0⟩, ?_⟩
  rintro i m σ H ⟨rfl, hi, p⟩
  have k1 := hl i σ H hi p
  by_cases hlt : i < xs.length
  · refine .inr ⟨⟨xs, _, k1, List.getElem?_eq_getElem hlt⟩, Pv (i + 1), fun σ' H' p' => ⟨xs.length - (i + 1), by omega, rfl, hlt, p'⟩, fun v H' yy => ?_⟩
    obtain ⟨T, x, rfl, hT, rfl, ex⟩ := yy
    exact hs i x σ H T (ex xs k1) p hT
  · have e : i = xs.length := by omega
    exact .inl ⟨⟨xs, k1, by omega⟩, hd σ H (e ▸ p)⟩
section
variable {X : Cx}
def rIndex (K : PySem.W.Frag) : V → List V → Hp → VK → Prop := fun x ys H Q => ∃ a xs y j, x = .ref a ∧ ys = [y] ∧ SqL K H a xs ∧ xs.all flatV = true ∧ flatV y = true ∧ (∃ z, xs[j]? = some z ∧ eqV z y = true) ∧ (∀ m z, m < j → xs[m]? = some z → eqV z y = false) ∧ Q (.int (j : Nat)) H
end
end L2
namespace L2
open PySem PySem.Spec PyProof.Rows
section
variable {pg : Program} {wd : World} {B : Around} {X0 : Value → Shared → Prop} {s0 : Shared}
end
def ItzN (K : PySem.W.Frag) (a b : Addr) : It := ⟨fun i H => ∃ xs ys x y, SqT K H a xs ∧ SqL K H b ys ∧ xs[i]? = some x ∧ ys[i]? = some y,
  fun i H v H' => ∃ T x y, v = .ref T ∧ H T = none ∧ H' = upd H T (.tup [x, y]) ∧ ∀ xs ys, SqT K H a xs → SqL K H b ys → xs[i]? = some x ∧ ys[i]? = some y, fun i H => ∃ xs ys, SqT K H a xs ∧ SqL K H b ys ∧ (xs.length ≤ i ∨ ys.length ≤ i)⟩
section
variable {X : Cx} {es : List Expr} {x1 : Nat} {pp : Pos}
def iZipN (K : PySem.W.Frag) (ta : TA) : TI := fun σ H R => ta σ H fun vs H1 => ∃ a b xs ys, vs = [.ref a, .ref b] ∧ SqT K H1 a xs ∧ SqL K H1 b ys ∧ R (ItzN K a b) H1
end
def LoopZN (K : PySem.W.Frag) (g : TG) (tb : TS) (D : Ends) (σ : St) (vs : List V) (H1 : Hp) : Prop := ∃ a b xs ys, vs = [.ref a, .ref b] ∧ SqT K H1 a xs ∧ SqL K H1 b ys ∧ ∃ W : Nat → Nat → St → Hp → Prop, (∃ m, W 0 m σ H1) ∧ ∀ i m σ H, W i m σ H →
  ((ItzN K a b).stop i H ∧ D.nx σ H) ∨ ((ItzN K a b).go i H ∧ ∃ N : St → Hp → Prop, (∀ σ' H', N σ' H' → ∃ m', m' < m ∧ W (i + 1) m' σ' H') ∧ ∀ x H', (ItzN K a b).yld i H x H' → g x σ H' fun σ2 H2 => tb { D with nx := N, ct := N, bk := D.nx } σ2 H2)
theorem for_eqZN {K : PySem.W.Frag} {ta : TA} {g : TG} {tb : TS} {D : Ends} {σ : St} {H : Hp} : tFor (iZipN K ta) g tb D σ H = ta σ H fun vs H1 => LoopZN K g tb D σ vs H1 := rfl
theorem LoopZN.mk {K : PySem.W.Frag} {a b : Addr} {xs ys : List V} {g : TG} {tb : TS} {D : Ends} {σ : St} {H : Hp} (n : Nat) (hn : n = min xs.length ys.length) (h1 : SqT K H a xs) (h2 : SqL K H b ys) (Pv : Nat → St → Hp → Prop) (h0 : Pv 0 σ H) (hl : ∀ i σ H, i ≤ n → Pv i σ H → SqT K H a xs ∧ SqL K H b ys)
    (hs : ∀ i x y σ H T, i < n → xs[i]? = some x → ys[i]? = some y → Pv i σ H → H T = none → g (.ref T) σ (upd H T (.tup [x, y])) fun σ2 H2 => tb { D with nx := Pv (i + 1), ct := Pv (i + 1), bk := D.nx } σ2 H2) (hd : ∀ σ H, Pv n σ H → D.nx σ H) :
    LoopZN K g tb D σ [.ref a, .ref b] H := by
  subst hn
  refine ⟨a, b, xs, ys, rfl, h1, h2, fun i m σ H => m = min xs.length ys.length - i ∧ i ≤ min xs.length ys.length ∧ Pv i σ H, ⟨_, rfl, Nat.zero_le _, h0⟩, ?_⟩
  rintro i m σ H ⟨rfl, hi, p⟩
  obtain ⟨k1, k2⟩ := hl i σ H hi p
  by_cases hlt : i < min xs.length ys.length
  · have l1 : i < xs.length := by omega
    have l2 : i < ys.length := by omega
    refine .inr ⟨⟨xs, ys, _, _, k1, k2, List.getElem?_eq_getElem l1, List.getElem?_eq_getElem l2⟩, Pv (i + 1), fun σ' H' p' => ⟨min xs.length ys.length - (i + 1), by omega, rfl, hlt, p'⟩, fun v H' yy => ?_⟩
    obtain ⟨T, x, y, rfl, hT, rfl, ex⟩ := yy
    obtain ⟨ex1, ex2⟩ := ex xs ys k1 k2
    exact hs i x y σ H T hlt ex1 ex2 p hT
  · have e : i = min xs.length ys.length := by omega
    exact .inl ⟨⟨xs, ys, k1, k2, by omega⟩, hd σ H (e ▸ p)⟩
def CompZN (K : PySem.W.Frag) (k : Nat) (js : List Nat) (g : TG) (te : TE) (σ : St) (vs : List V) (H1 : Hp) (Q : VK) : Prop := ∃ a b xs ys, vs = [.ref a, .ref b] ∧ SqT K H1 a xs ∧ SqL K H1 b ys ∧ ∃ W : Nat → Nat → List V → St → Hp → Prop, (∃ m, W 0 m [] (compSt k js σ) H1) ∧ ∀ i m zs σ' H', W i m zs σ' H' →
    ((ItzN K a b).stop i H' ∧ ∀ p, H' p = none → Q (.ref p) (upd H' p (.lst zs))) ∨
    ((ItzN K a b).go i H' ∧ zs.length < sizeLine ∧ ∃ N : List V → St → Hp → Prop, (∀ zs σ2 H2, N zs σ2 H2 → ∃ m', m' < m ∧ W (i + 1) m' zs σ2 H2) ∧ ∀ x H2, (ItzN K a b).yld i H' x H2 → g x σ' H2 fun σ3 H3 => te σ3 H3 fun v H4 => N (zs ++ [v]) σ3 H4)
theorem comp_eqZN {K : PySem.W.Frag} {k : Nat} {js : List Nat} {ta : TA} {g : TG} {te : TE} {σ : St} {H : Hp} {Q : VK} : tComp (iZipN K ta) k js g te σ H Q = ta σ H fun vs H1 => CompZN K k js g te σ vs H1 Q := rfl
theorem CompZN.mk {K : PySem.W.Frag} {a b : Addr} {xs ys : List V} {k : Nat} {js : List Nat} {g : TG} {te : TE} {Q : VK} {σ : St} {H : Hp} (n : Nat) (hn : n = min xs.length ys.length) (h1 : SqT K H a xs) (h2 : SqL K H b ys) (Pv : Nat → List V → St → Hp → Prop) (h0 : Pv 0 [] (compSt k js σ) H) (hl : ∀ i zs σ H, i ≤ n → Pv i zs σ H → SqT K H a xs ∧ SqL K H b ys)
    (hs : ∀ i x y zs σ H T, i < n → xs[i]? = some x → ys[i]? = some y → Pv i zs σ H → H T = none → zs.length < sizeLine ∧ g (.ref T) σ (upd H T (.tup [x, y])) fun σ3 H3 => te σ3 H3 fun v H4 => Pv (i + 1) (zs ++ [v]) σ3 H4) (hz : ∀ zs σ H, Pv n zs σ H → ∀ p, H p = none → Q (.ref p) (upd H p (.lst zs))) (hlen : ∀ i zs σ H, Pv i zs σ H → zs.length < sizeLine) :
    CompZN K k js g te σ [.ref a, .ref b] H Q := by
  subst hn
  refine ⟨a, b, xs, ys, rfl, h1, h2, fun i m zs σ H => m = min xs.length ys.length - i ∧ i ≤ min xs.length ys.length ∧ Pv i zs σ H, ⟨_, rfl, Nat.zero_le _, h0⟩, ?_⟩
  rintro i m zs σ H ⟨rfl, hi, p⟩
  obtain ⟨k1, k2⟩ := hl i zs σ H hi p
  by_cases hlt : i < min xs.length ys.length
  · have l1 : i < xs.length := by omega
    have l2 : i < ys.length := by omega
    refine .inr ⟨⟨xs, ys, _, _, k1, k2, List.getElem?_eq_getElem l1, List.getElem?_eq_getElem l2⟩, hlen _ _ _ _ p, Pv (i + 1), fun zs' σ' H' p' => ⟨min xs.length ys.length - (i + 1), by omega, rfl, hlt, p'⟩, fun v H' yy => ?_⟩
    obtain ⟨T, x, y, rfl, hT, rfl, ex⟩ := yy
    obtain ⟨ex1, ex2⟩ := ex xs ys k1 k2
    exact (hs i x y zs σ H T hlt ex1 ex2 p hT).2
  · have e : i = min xs.length ys.length := by omega
    exact .inl ⟨⟨xs, ys, k1, k2, by omega⟩, hz zs σ H (e ▸ p)⟩
end L2
namespace L2
open PySem PySem.Spec PyProof.Rows
section
variable {X : Cx}
theorem call_strB : CallR X (.type "str") (fun xs H Q => ∃ b : Bool, xs = [.bl b] ∧ Q (.str (if b then "True" else "False")) H) := by
  intro pins s σ H xs us Q I r h
  obtain ⟨b, rfl, q⟩ := h
  obtain ⟨u, rfl, ru⟩ := vals1 r
  cases (show u = Value.bool b from ru)
  exact PySem.P.str_of_bool ⟨.str _, H, I.tok _, ⟨_, rfl⟩, q⟩
theorem call_isiIL : CallR X (.builtin "isinstance") (fun xs H Q => ∃ x, xs = [x, .ty "list"] ∧ ((∃ n : Int, x = .int n ∧ Q (.bl false) H) ∨ ∃ a ys, x = .ref a ∧ H a = some (.lst ys) ∧ Q (.bl true) H)) := by
  intro pins s σ H xs us Q I r h
  obtain ⟨x, rfl, ⟨n, rfl, q⟩ | ⟨a, ys, rfl, ha, q⟩⟩ := h
  · exact call_isiV pins s σ H _ us Q I r ⟨.int n, "list", "int", rfl, by decide, .inl rfl, q⟩
  · exact call_isiLL pins s σ H _ us Q I r ⟨a, ys, rfl, ha, q⟩
def rInsert : V → List V → Hp → VK → Prop := fun x vs H Q => ∃ l xs i y, x = .ref l ∧ vs = [.int i, y] ∧ H l = some (.lst xs) ∧ 0 ≤ i ∧ i ≤ xs.length ∧ xs.length < sizeLine ∧ Q .non (upd H l (.lst (xs.take i.toNat ++ y :: xs.drop i.toNat)))
theorem mt_insert : MtR X "list.insert" rInsert := by
  intro pins s σ H x vs v us Q I rx rv h
  obtain ⟨l, xs, i, y, rfl, rfl, hH, i0, i1, hz, q⟩ := h
  cases rx
  obtain ⟨u, w, rfl, ⟨t, rfl⟩, rw'⟩ := vals2 rv
  obtain ⟨z, its, n, r, hl, e⟩ := I.lstM hH
  have s63 : sizeLine ≤ 2 ^ 62 := by rw [sizeLine_eq]; decide
  have hf : Builtin.List.listFitsIndex i = true := fitsIndex_both (by omega) (by omega)
  refine call_meets F.slot_list_insert ⟨_, e, rfl⟩ F.entry_list_insert (F.args_list_insert_3 _ _ _)
    (AutoSeq1.list_insert_list_int_val_1 l its.toArray n i t w (by simp [hf]) (by rw [List.size_toArray]; omega)) ⟨e, ?_⟩
  refine ⟨.non, _, I.lset (its' := its.take i.toNat ++ w :: its.drop i.toNat) hH e ?_ ((r.take _).append (.cons rw' (r.drop _))) ?_, rfl, q⟩
  · show (its.toArray.extract 0 (if i < 0 then (i + (its.toArray.size : Int)).toNat else min i.toNat its.toArray.size)).push w ++ its.toArray.extract (if i < 0 then (i + (its.toArray.size : Int)).toNat else min i.toNat its.toArray.size) = _
    rw [if_neg (by omega), List.size_toArray, Nat.min_eq_left (by omega)]
    apply Array.ext'
    simp [List.extract_eq_take_drop, List.take_of_length_le]
  · rw [List.length_append, List.length_cons, List.length_take, List.length_drop]
    omega
end
end L2
namespace My
open PySem L2 PyProof.Rows
local macro_rules | `(tactic| wp_walk using $xs:term,*) => `(tactic| simp only [rPopAt, rCount, tBMf, rStarts, rSlStrX, tKTab, rKTab, tKIn, for_eqZM, comp_eqZM, comp_eqTI, gTup, rJoinD, rJoinW, rMulS, rIxQ, rExtend, rSplit, rInN, rMulC, tDGet1, tDIn, sDPut, tDNewK, rRep, rExtendT, rUpdate, rEqD, rNeD, for_eqQ, comp_eqQ, for_eqVL, tTryA, caughtA, catchA, tCalV, tLam, for_eqE, rIndex, for_eqZN, comp_eqZN, rInsert, for_eqZL, comp_eqZL, rCatL, for_eqX, comp_eqX, rFind, tFR, rSlStr, rUpper, rJoin, tBM0, tBM, tyV, for_eqEL, rSlTA, tTryN, caughtN, catchN, comp_eqE, comp_eqEI, rNeT, rNeL, tRaise, tTry, tCallX, caughtBy, goneEnds, tTupRev, rCatA, rEqL, rEqT, for_eqV, for_eqZ, comp_eqZ, for_eqR3, comp_eqR3, rCatS, rSlTS, tSl, tNoPart, tPart, rSetL, gSub, rIxT, tSeq, tIfS, tRet, tRetN, tNext, tVar, tC, tOp, tUn, rI, rI0, rU, rEq, rNe, tTest, tB, tNot, tAnd, tOr, tAndV, tOrV, tNotV, tIf, tCall, tCB, tNil, tCons, tChain, tLst, tTup, tAsg, gName, tDrop, tNever, rIxL, rCat, CPow, CMul, CDiv, CDivN, CDivW, L2.start, scal, for_eqL, for_eqT, for_eqR1, for_eqR2, comp_eqL, comp_eqT, comp_eqR1, cxOf_K, cxComp_K, isi_ii, isi_ib, isi_bi, isi_bb, isi_it, tyS, tApp, gTupH, gCons, gNil, rInT, rInL, rIxLH, rIxTH, inV, eqV, flatV, upd_same, HO.lst.injEq, HO.tup.injEq, List.any_cons, List.any_nil, List.all_cons, List.all_nil, Bool.or_false, Bool.and_self, Bool.and_true, Bool.or_eq_true, beq_iff_eq, V.int.injEq, V.bl.injEq, V.str.injEq, V.ref.injEq, V.ty.injEq, List.map_cons, List.map_nil, List.length_cons, List.length_nil, List.cons_append, List.nil_append, List.getElem?_cons_zero, List.getElem?_cons_succ, Option.some.injEq, exists_eq_left', exists_eq_left, exists_and_left, List.cons.injEq, and_true, true_and, and_assoc, decide_eq_true_eq, List.set_cons_zero, List.set_cons_succ, List.replicate, Nat.sub_self, List.append_nil, Nat.add_sub_cancel, Nat.reduceAdd, Nat.reduceSub, Int.reduceLT, Int.reduceLE, Int.reduceNeg, Int.reduceSub, Int.reduceAdd, Int.reducePow, Int.reduceToNat, na2, na10, Nat.reducePow, Nat.reduceLT, if_true, if_false, Bool.not_true, Bool.not_false, Bool.false_eq_true, List.mem_cons, List.not_mem_nil, eq_self, true_or, or_true, or_false, false_or, String.reduceEq, Option.isSome_some, ne_eq, not_false_eq_true, not_true_eq_false, Bool.not_eq_true', decide_eq_false_iff_not, Bool.true_eq_false, $[$xs:term],*])
def top (i : Nat) : Stmt := PySem.Challenge.pw_sideloom_k09_whole_tables.main.body.getD i (.Pass ⟨0, 0, 0, 0⟩)
def prodI (ns : List Int) : Int := ns.foldl (fun a b => a * b) 1
theorem prod_step {ns : List Int} {i : Nat} {x : Int} (h : ns[i]? = some x) : prodI (ns.take (i + 1)) = prodI (ns.take i) * x := by
  unfold prodI
  rw [List.take_add_one, h, List.foldl_append]
  rfl
def sdOk (ns : List Int) : Prop := ∀ n ∈ ns, 0 ≤ n ∧ n < 1000000000000000000
def one1 (n : Int) : Int := if n = 0 then 1 else n
theorem one_ok {ns : List Int} (h : sdOk ns) : sdOk (ns.map one1) := by
  intro n hn
  obtain ⟨m, hm, rfl⟩ := List.mem_map.mp hn
  have := h m hm
  unfold one1
  split <;> omega
theorem sd_at {ns : List Int} (h : sdOk ns) {i : Nat} {x : V} (e : (ns.map V.int)[i]? = some x) : ∃ m, x = .int m ∧ ns[i]? = some m ∧ 0 ≤ m ∧ m < 1000000000000000000 := by
  rw [List.getElem?_map] at e
  cases q : ns[i]? with
  | none => rw [q] at e; cases e
  | some m =>
    rw [q] at e
    exact ⟨m, (Option.some.inj e).symm, rfl, h m (List.mem_of_getElem? q)⟩
def stP (ns : List Int) (j : Nat) : Int := prodI (ns.reverse.take j)
def stL (ns : List Int) (i : Nat) : List Int := (List.range i).map (stP ns)
theorem stL_succ (ns : List Int) (i : Nat) : stL ns (i + 1) = stL ns i ++ [stP ns i] := by
  unfold stL; rw [List.range_succ, List.map_append]; rfl
theorem stP_succ {ns : List Int} {i : Nat} {m : Int} (hi : i < ns.length) (h : ns[ns.length - 1 - i]? = some m) : stP ns (i + 1) = stP ns i * m := by
  unfold stP
  exact prod_step (by rw [List.getElem?_reverse hi]; exact h)
def bigI (ns : List Int) : Prop := 6 < ns.length ∨ 512 < prodI (ns.map one1)
def spallowed (C : Addr) : Sp := fun vs H Q E => ∃ (a : Addr) (ns : List Int), vs = [.ref a] ∧ H a = some (.tup (ns.map V.int)) ∧ sdOk ns ∧ ns.length ≤ 63 ∧ (bigI ns → ∀ H', Same H H' → E (.ref C) none H') ∧ (¬ bigI ns → ∀ H', Same H H' → Q (.ref a) H')
theorem seq_with {A B : TS} {D : Ends} {σ : L2.St} {H : Hp} (J : L2.St → Hp → Prop) (h2 : ∀ σ H, J σ H → B D σ H) (h1 : ∀ R : L2.St → Hp → Prop, (∀ σ H, J σ H → R σ H) → A { D with nx := R } σ H) : tSeq A B D σ H := h1 (B D) h2
theorem st_len (ns : List Int) : ((stL ns ns.length).reverse.map V.int).length = ns.length := by rw [List.length_map, List.length_reverse, stL, List.length_map, List.length_range]
theorem len_map (ns : List Int) : (ns.map V.int).length = ns.length := List.length_map ..
def good (ns ms : List Int) : Prop := ms.length = ns.length ∧ ∀ (i : Nat) m n, ms[i]? = some m → ns[i]? = some n → 0 ≤ m ∧ m < n
def dotI (ms ss : List Int) : Int := (List.zipWith (fun a b => a * b) ms ss).sum
def spplaceof (C : Addr) : Sp := fun vs H Q E => ∃ (a b : Addr) (ns ms : List Int), vs = [.ref a, .ref b] ∧ H a = some (.tup (ns.map V.int)) ∧ H b = some (.tup (ms.map V.int)) ∧ sdOk ns ∧ ns.length ≤ 63 ∧ ms.length ≤ 70 ∧ (¬ good ns ms → ∀ H', Same H H' → E (.ref C) none H') ∧ (good ns ms → ∀ H', Same H H' → Q (.int (dotI ms (stL ns ns.length).reverse)) H')
theorem int_at {ms : List Int} {i : Nat} {y : V} (ey : (ms.map V.int)[i]? = some y) : ∃ m, y = .int m ∧ ms[i]? = some m := by
  rw [List.getElem?_map] at ey
  cases q : ms[i]? with
  | none => rw [q] at ey; cases ey
  | some m => rw [q] at ey; exact ⟨m, (Option.some.inj ey).symm, rfl⟩
def lfI (ns : List Int) (place : Int) : Nat → Int
  | 0 => place
  | i + 1 => lfI ns place i / ns.reverse.getD i 1
def dgI (ns : List Int) (place : Int) (i : Nat) : Int := lfI ns place i % ns.reverse.getD i 1
def dgL (ns : List Int) (place : Int) (i : Nat) : List Int := (List.range i).map (dgI ns place)
theorem dgL_succ (ns : List Int) (p : Int) (i : Nat) : dgL ns p (i + 1) = dgL ns p i ++ [dgI ns p i] := by
  unfold dgL; rw [List.range_succ, List.map_append]; rfl
theorem rev_get {ns : List Int} {i : Nat} {m : Int} (hi : i < ns.length) (h : ns[ns.length - 1 - i]? = some m) : ns.reverse.getD i 1 = m := by
  rw [List.getD_eq_getElem?_getD, List.getElem?_reverse hi, h]; rfl
theorem prod_app (xs : List Int) (y : Int) : prodI (xs ++ [y]) = prodI xs * y := by unfold prodI; rw [List.foldl_append]; rfl
theorem prod_from (xs : List Int) : ∀ a : Int, xs.foldl (fun a b => a * b) a = a * prodI xs := by
  induction xs with
  | nil => intro a; show a = a * 1; rw [Int.mul_one]
  | cons x xs ih => intro a; show xs.foldl (fun a b => a * b) (a * x) = a * (xs.foldl (fun a b => a * b) (1 * x)); rw [ih, ih (1 * x), Int.one_mul, Int.mul_assoc]
theorem prod_cons (x : Int) (xs : List Int) : prodI (x :: xs) = x * prodI xs := by
  show xs.foldl (fun a b => a * b) (1 * x) = _
  rw [prod_from, Int.one_mul]
theorem prod_rev (ns : List Int) : prodI ns.reverse = prodI ns := by
  induction ns with
  | nil => rfl
  | cons x xs ih => rw [List.reverse_cons, prod_app, prod_cons, ih, Int.mul_comm]
theorem prod_nz {ns : List Int} (h : prodI ns ≠ 0) : ∀ n ∈ ns, n ≠ 0 := by
  induction ns with
  | nil => intro n hn; cases hn
  | cons x xs ih =>
    rw [prod_cons] at h
    intro n hn
    rcases List.mem_cons.mp hn with rfl | hn
    · intro z; rw [z, Int.zero_mul] at h; exact h rfl
    · exact ih (fun z => h (by rw [z, Int.mul_zero])) n hn
theorem stP_all (ns : List Int) : stP ns ns.length = prodI ns := by
  unfold stP; rw [← List.length_reverse, List.take_length, prod_rev]
theorem prod_nn {ns : List Int} (h : ∀ n ∈ ns, 0 ≤ n) : 0 ≤ prodI ns := by
  induction ns with
  | nil => decide
  | cons x xs ih => rw [prod_cons]; exact Int.mul_nonneg (h x (List.mem_cons_self ..)) (ih fun n hn => h n (List.mem_cons_of_mem _ hn))
theorem stP_nn {ns : List Int} (h : sdOk ns) (i : Nat) : 0 ≤ stP ns i := prod_nn fun n hn => (h n (List.mem_reverse.mp (List.mem_of_mem_take hn))).1
def totI (ns : List Int) (pl : Int) : Nat → Int
  | 0 => 0
  | i + 1 => totI ns pl i + dgI ns pl i * stP ns i
theorem at_rev (ns : List Int) {i : Nat} (hi : i < ns.length) : ∃ m, ns[ns.length - 1 - i]? = some m ∧ m ∈ ns := by
  have z : ns.length - 1 - i < ns.length := by omega
  exact ⟨ns[ns.length - 1 - i], List.getElem?_eq_getElem z, List.getElem_mem z⟩
theorem tot_inv {ns : List Int} {pl : Int} : ∀ i, i ≤ ns.length → totI ns pl i + stP ns i * lfI ns pl i = pl
  | 0, _ => by show 0 + 1 * pl = pl; omega
  | i + 1, h => by
    obtain ⟨m, hm, _⟩ := at_rev ns (i := i) (by omega)
    have ih := tot_inv (ns := ns) (pl := pl) i (by omega)
    rw [stP_succ (by omega) hm]
    show totI ns pl i + dgI ns pl i * stP ns i + stP ns i * m * (lfI ns pl i / _) = pl
    have rg := rev_get (by omega) hm
    unfold dgI
    rw [rg]
    have e := Int.mul_ediv_add_emod (lfI ns pl i) m
    have e2 : stP ns i * m * (lfI ns pl i / m) = stP ns i * (m * (lfI ns pl i / m)) := Int.mul_assoc ..
    have e3 : stP ns i * (m * (lfI ns pl i / m)) + stP ns i * (lfI ns pl i % m) = stP ns i * lfI ns pl i := by rw [← Int.mul_add, e]
    have e4 : lfI ns pl i % m * stP ns i = stP ns i * (lfI ns pl i % m) := Int.mul_comm ..
    omega
theorem lf_nn {ns : List Int} {pl : Int} (h : sdOk ns) (h0 : 0 ≤ pl) : ∀ i, i ≤ ns.length → 0 ≤ lfI ns pl i
  | 0, _ => h0
  | i + 1, hi => by
    obtain ⟨m, hm, mm⟩ := at_rev ns (i := i) (by omega)
    show 0 ≤ lfI ns pl i / _
    rw [rev_get (by omega) hm]
    exact Int.ediv_nonneg (lf_nn h h0 i (by omega)) (h m mm).1
theorem dg_in {ns : List Int} {pl : Int} (nz : ∀ n ∈ ns, n ≠ 0) (h : sdOk ns) {i : Nat} {m : Int} (hi : i < ns.length) (hm : ns[ns.length - 1 - i]? = some m) : 0 ≤ dgI ns pl i ∧ dgI ns pl i < m := by
  unfold dgI
  rw [rev_get hi hm]
  have mm := List.mem_of_getElem? hm
  have m0 := (h m mm).1
  have mz := nz m mm
  exact ⟨Int.emod_nonneg _ mz, Int.emod_lt_of_pos _ (by omega)⟩
theorem tot_nn {ns : List Int} {pl : Int} (nz : ∀ n ∈ ns, n ≠ 0) (h : sdOk ns) : ∀ i, i ≤ ns.length → 0 ≤ totI ns pl i
  | 0, _ => Int.le_refl _
  | i + 1, hi => by
    obtain ⟨m, hm, _⟩ := at_rev ns (i := i) (by omega)
    have a1 := tot_nn (pl := pl) nz h i (by omega)
    have a2 := Int.mul_nonneg (dg_in (pl := pl) nz h (by omega) hm).1 (stP_nn h i)
    show 0 ≤ totI ns pl i + _
    omega
theorem tot_all {ns : List Int} {pl : Int} (h : sdOk ns) (h0 : 0 ≤ pl) (h1 : pl < prodI ns) : totI ns pl ns.length = pl := by
  have nz := prod_nz (ns := ns) (by omega)
  have e := tot_inv (ns := ns) (pl := pl) ns.length (Nat.le_refl _)
  have t := tot_nn (pl := pl) nz h ns.length (Nat.le_refl _)
  have l := lf_nn h h0 ns.length (Nat.le_refl _)
  have z : lfI ns pl ns.length = 0 := by
    refine Decidable.byContradiction fun nl => ?_
    have g := Int.mul_le_mul_of_nonneg_left (show 1 ≤ lfI ns pl ns.length by omega) (stP_nn h ns.length)
    rw [stP_all] at g e
    omega
  rw [z, Int.mul_zero] at e
  omega
theorem dg_get {ns : List Int} {pl : Int} {k : Nat} (hk : k < ns.length) : (dgL ns pl ns.length).reverse[k]? = some (dgI ns pl (ns.length - 1 - k)) := by
  have l : (dgL ns pl ns.length).length = ns.length := by rw [dgL, List.length_map, List.length_range]
  have z : ns.length - 1 - k < ns.length := by omega
  rw [List.getElem?_reverse (by rw [l]; exact hk), l, dgL, List.getElem?_map, List.getElem?_range z]
  rfl
theorem dot_tot (ns : List Int) (pl : Int) : ∀ n, dotI (dgL ns pl n).reverse (stL ns n).reverse = totI ns pl n
  | 0 => rfl
  | n + 1 => by
    rw [dgL_succ, stL_succ, List.reverse_append, List.reverse_append]
    show dgI ns pl n * stP ns n + dotI (dgL ns pl n).reverse (stL ns n).reverse = totI ns pl n + dgI ns pl n * stP ns n
    rw [dot_tot ns pl n, Int.add_comm]
theorem dg_good {ns : List Int} {pl : Int} (nz : ∀ n ∈ ns, n ≠ 0) (h : sdOk ns) : good ns (dgL ns pl ns.length).reverse := by
  refine ⟨by rw [List.length_reverse, dgL, List.length_map, List.length_range], fun i m n hm hn => ?_⟩
  have hi := (List.getElem?_eq_some_iff.mp hn).1
  rw [dg_get hi] at hm
  cases hm
  exact dg_in nz h (by omega) (by rw [show ns.length - 1 - (ns.length - 1 - i) = i by omega]; exact hn)
def rep0 (n : Nat) : List Int := List.replicate n 0
theorem rep0_len (n : Nat) : (rep0 n).length = n := List.length_replicate ..
theorem rep0_flat (n : Nat) : (List.replicate n [V.int 0]).flatten = (rep0 n).map V.int := by unfold rep0; rw [List.flatten_replicate_singleton, List.map_replicate]
def askOk (ns : List Int) (H : Hp) (l : Addr) (c : Nat) : Prop := ∃ ps : List Addr, H l = some (.lst (ps.map V.ref)) ∧ ps.length ≤ c ∧ ∀ p ∈ ps, ∃ ms : List Int, H p = some (.tup (ms.map V.int)) ∧ ms.length ≤ 70 ∧ ¬ good ns ms
def spatof (C : Addr) : Sp := fun vs H Q E => ∃ (a : Addr) (ns : List Int) (pl : Int), vs = [.ref a, .int pl] ∧ H a = some (.tup (ns.map V.int)) ∧ sdOk ns ∧ ns.length ≤ 63 ∧ ((pl < 0 ∨ prodI ns ≤ pl) → ∀ H', Same H H' → E (.ref C) none H') ∧ (0 ≤ pl → pl < prodI ns → ∀ H' p, Same H H' → H' p = some (.tup ((dgL ns pl ns.length).reverse.map V.int)) → Q (.ref p) H')
def cellI (ns : List Int) (k : Nat) : Int := ns.getD k 0
def Pair (H : Hp) (p : Addr) (w : String) (ms : List Int) : Prop := ∃ q, H p = some (.tup [.str w, .ref q]) ∧ H q = some (.tup (ms.map V.int))
theorem Pair.same {H H' : Hp} {p : Addr} {w : String} {ms : List Int} (h : Pair H p w ms) (s : Same H H') : Pair H' p w ms := let ⟨q, a, b⟩ := h; ⟨q, s _ _ a, s _ _ b⟩
instance (ns : List Int) : Decidable (bigI ns) := by unfold bigI; infer_instance
theorem cut_any (ns : List Int) (k : Nat) : cutV (ns.map V.int) none (some (k : Int)) = (ns.take k).map V.int := by
  unfold cutV; simp only [HT.sIx, len_map]; rw [if_neg (by omega), List.drop_zero, Nat.sub_zero, ← List.map_take]; congr 1
  by_cases c : k ≤ ns.length
  · congr 1; omega
  · rw [List.take_of_length_le (by omega), List.take_of_length_le (by omega)]
def tups (H : Hp) (ps : List Addr) (L : List (List Int)) : Prop := ps.length = L.length ∧ ∀ (i : Nat) p m, ps[i]? = some p → L[i]? = some m → H p = some (.tup (m.map V.int))
theorem tups.same {H H' : Hp} {ps : List Addr} {L : List (List Int)} (h : tups H ps L) (s : Same H H') : tups H' ps L := ⟨h.1, fun i p m a b => s _ _ (h.2 i p m a b)⟩
theorem tups.at {H : Hp} {ps : List Addr} {L : List (List Int)} (h : tups H ps L) {i : Nat} {v : V} (e : (ps.map V.ref)[i]? = some v) : ∃ p m, v = .ref p ∧ L[i]? = some m ∧ m ∈ L ∧ H p = some (.tup (m.map V.int)) := by
  rw [List.getElem?_map] at e
  cases q : ps[i]? with
  | none => rw [q] at e; cases e
  | some p =>
    rw [q] at e
    have hi := (List.getElem?_eq_some_iff.mp q).1
    rw [h.1] at hi
    have z := List.getElem?_eq_getElem hi
    exact ⟨p, L[i], (Option.some.inj e).symm, z, List.getElem_mem hi, h.2 i p _ q z⟩
theorem tups.snoc {H : Hp} {ps : List Addr} {L : List (List Int)} {p : Addr} {m : List Int} (h : tups H ps L) (hp : H p = some (.tup (m.map V.int))) : tups H (ps ++ [p]) (L ++ [m]) := by
  refine ⟨by rw [List.length_append, List.length_append, h.1]; rfl, fun i p' m' a b => ?_⟩
  by_cases c : i < ps.length
  · rw [List.getElem?_append_left c] at a
    rw [List.getElem?_append_left (by rw [← h.1]; exact c)] at b
    exact h.2 i p' m' a b
  · have e : i = ps.length := by have := (List.getElem?_eq_some_iff.mp a).1; simp at this; omega
    subst e
    rw [List.getElem?_append_right (Nat.le_refl _), Nat.sub_self] at a
    rw [h.1, List.getElem?_append_right (Nat.le_refl _), Nat.sub_self] at b
    cases a; cases b; exact hp
theorem tups.take {H : Hp} {ps : List Addr} {L : List (List Int)} (h : tups H ps L) (k : Nat) : tups H (ps.take k) (L.take k) := by
  refine ⟨by rw [List.length_take, List.length_take, h.1], fun i p m a b => ?_⟩
  have c : i < k := by have := (List.getElem?_eq_some_iff.mp a).1; rw [List.length_take] at this; omega
  rw [List.getElem?_take_of_lt c] at a b
  exact h.2 i p m a b
def sm (ns : List Int) : Prop := ∀ n ∈ ns, 0 ≤ n ∧ n ≤ 1000000
instance (ns : List Int) : Decidable (bigI ns) := by unfold bigI; infer_instance
def atD (ns : List Int) (p : Int) : List Int := (dgL ns p ns.length).reverse
theorem prod_pos {ns : List Int} (h : ∀ n ∈ ns, 0 < n) : 0 < prodI ns := by
  induction ns with
  | nil => decide
  | cons x xs ih => rw [prod_cons]; exact Int.mul_pos (h x (List.mem_cons_self ..)) (ih fun n hn => h n (List.mem_cons_of_mem _ hn))
def allD (ns : List Int) : List (List Int) := (List.range (prodI ns).toNat).map fun p : Nat => atD ns (p : Int)
theorem all_len (ns : List Int) : (allD ns).length = (prodI ns).toNat := by simp [allD]
theorem all_get {ns : List Int} {i : Nat} (h : i < (prodI ns).toNat) : (allD ns)[i]? = some (atD ns (i : Int)) := by
  unfold allD
  rw [List.getElem?_map, List.getElem?_range h]; rfl
def plH (ns ms : List Int) : Int := dotI ms (stL ns ns.length).reverse
theorem plH_at {ns : List Int} {p : Int} (h : sdOk ns) (h0 : 0 ≤ p) (h1 : p < prodI ns) : plH ns (atD ns p) = p := by
  unfold plH atD
  rw [dot_tot, tot_all h h0 h1]
theorem nz_of {ns : List Int} {p : Int} (h : sdOk ns) (h0 : 0 ≤ p) (h1 : p < prodI ns) : ∀ n ∈ ns, 0 < n := fun n hn => by
  have a := prod_nz (ns := ns) (by omega) n hn
  have b := h n hn
  omega
theorem atD_good {ns : List Int} {p : Int} (h : sdOk ns) (h0 : 0 ≤ p) (h1 : p < prodI ns) : good ns (atD ns p) := dg_good (fun n hn => by have := nz_of h h0 h1 n hn; omega) h
theorem stP_cons (n : Int) (ns : List Int) {j : Nat} (h : j ≤ ns.length) : stP (n :: ns) j = stP ns j := by
  unfold stP
  rw [List.reverse_cons, List.take_append_of_le_length (by simpa using h)]
theorem stL_cons (n : Int) (ns : List Int) : (stL (n :: ns) (n :: ns).length).reverse = prodI ns :: (stL ns ns.length).reverse := by
  rw [List.length_cons, stL_succ, List.reverse_append, stP_cons n ns (Nat.le_refl _), stP_all]
  show prodI ns :: (stL (n :: ns) ns.length).reverse = _
  congr 2
  unfold stL
  exact List.map_congr_left fun j hj => stP_cons n ns (Nat.le_of_lt (List.mem_range.mp hj))
theorem plH_cons (n m : Int) (ns ms : List Int) : plH (n :: ns) (m :: ms) = m * prodI ns + plH ns ms := by
  unfold plH
  rw [stL_cons]
  show (List.zipWith _ (m :: ms) (prodI ns :: _)).sum = _
  rw [List.zipWith_cons_cons, List.sum_cons]; rfl
theorem st_snoc (ns : List Int) (n : Int) : (stL (ns ++ [n]) (ns ++ [n]).length).reverse = ((stL ns ns.length).reverse.map fun s => s * n) ++ [1] := by
  unfold stL
  rw [List.length_append, List.length_singleton, List.range_succ_eq_map, List.map_cons, List.reverse_cons, List.map_map, ← List.map_reverse, ← List.map_reverse, List.map_map]
  congr 1
  refine List.map_congr_left fun j _ => ?_
  show prodI ((ns ++ [n]).reverse.take (j + 1)) = prodI (ns.reverse.take j) * n
  rw [List.reverse_append]
  show prodI (n :: ns.reverse.take j) = _
  rw [prod_cons, Int.mul_comm]
theorem dot_scale (n : Int) : ∀ (ms ss : List Int), dotI ms (ss.map fun s => s * n) = dotI ms ss * n
  | [], _ => by simp [dotI]
  | _ :: _, [] => by simp [dotI]
  | m :: ms, s :: ss => by
    show m * (s * n) + dotI ms (ss.map fun s => s * n) = (m * s + dotI ms ss) * n
    rw [dot_scale n ms ss, Int.add_mul, Int.mul_assoc]
theorem dot_snoc1 (m : Int) : ∀ {ms ss : List Int}, ms.length = ss.length → dotI (ms ++ [m]) (ss ++ [1]) = dotI ms ss + m
  | [], [], _ => by simp [dotI]
  | [], _ :: _, h => by simp at h
  | _ :: _, [], h => by simp at h
  | a :: ms, s :: ss, h => by
    show a * s + dotI (ms ++ [m]) (ss ++ [1]) = a * s + dotI ms ss + m
    rw [dot_snoc1 m (by simpa using h), Int.add_assoc]
theorem plH_snoc {ns ms : List Int} (n m : Int) (h : ms.length = ns.length) : plH (ns ++ [n]) (ms ++ [m]) = plH ns ms * n + m := by
  unfold plH
  rw [st_snoc, dot_snoc1 m (by simp [stL, h]), dot_scale]
theorem plH_take {ns ms : List Int} {i : Nat} {n m : Int} (hl : ms.length = ns.length) (hn : ns[i]? = some n) (hm : ms[i]? = some m) : plH (ns.take (i + 1)) (ms.take (i + 1)) = plH (ns.take i) (ms.take i) * n + m := by
  rw [List.take_add_one, List.take_add_one, hn, hm]
  exact plH_snoc n m (by rw [List.length_take, List.length_take, hl])
theorem plH_in : ∀ {ns ms : List Int}, good ns ms → 0 ≤ plH ns ms ∧ plH ns ms < prodI ns
  | [], [], _ => by decide
  | [], _ :: _, h => by have := h.1; simp at this
  | _ :: _, [], h => by have := h.1; simp at this
  | n :: ns, m :: ms, h => by
    have g : good ns ms := ⟨by have := h.1; simpa using this, fun i a b e1 e2 => h.2 (i + 1) a b (by simpa using e1) (by simpa using e2)⟩
    have ih := plH_in g
    have m0 := h.2 0 m n rfl rfl
    rw [plH_cons, prod_cons]
    have e : n * prodI ns = m * prodI ns + (n - m) * prodI ns := by rw [← Int.add_mul]; congr 1; omega
    have e2 : prodI ns ≤ (n - m) * prodI ns := by
      have : 1 * prodI ns ≤ (n - m) * prodI ns := Int.mul_le_mul_of_nonneg_right (by omega) (by omega)
      omega
    have e3 : 0 ≤ m * prodI ns := Int.mul_nonneg m0.1 (by omega)
    omega
def RwI (H : Hp) (a : Addr) (ns : List Int) : Prop := H a = some (.lst (ns.map V.int)) ∨ H a = some (.tup (ns.map V.int))
theorem RwI.same {H H' : Hp} {a : Addr} {ns : List Int} (h : RwI H a ns) (s : Same H H') : RwI H' a ns := h.imp (s _ _) (s _ _)
def TbAt (H : Hp) (t : Addr) (ns cs : List Int) : Prop := ∃ a c, H t = some (.tup [.ref a, .ref c]) ∧ H a = some (.tup (ns.map V.int)) ∧ H c = some (.tup (cs.map V.int))
theorem TbAt.same {H H' : Hp} {t : Addr} {ns cs : List Int} (h : TbAt H t ns cs) (s : Same H H') : TbAt H' t ns cs := let ⟨a, c, h1, h2, h3⟩ := h; ⟨a, c, s _ _ h1, s _ _ h2, s _ _ h3⟩
def TpsAt (H : Hp) (ps : List Addr) (L : List (List Int)) : Prop := ps.length = L.length ∧ ∀ (i : Nat) t, L[i]? = some t → ∃ p, ps[i]? = some p ∧ H p = some (.tup (t.map V.int))
theorem TpsAt.mono {H H' : Hp} {ps : List Addr} {L : List (List Int)} (h : TpsAt H ps L) (s : ∀ a xs, H a = some (.tup xs) → H' a = some (.tup xs)) : TpsAt H' ps L := ⟨h.1, fun i t e => let ⟨p, e1, g⟩ := h.2 i t e; ⟨p, e1, s _ _ g⟩⟩
theorem TpsAt.snoc {H : Hp} {ps : List Addr} {L : List (List Int)} {t : List Int} {q : Addr} (h : TpsAt H ps L) (g : H q = some (.tup (t.map V.int))) : TpsAt H (ps ++ [q]) (L ++ [t]) := by
  refine ⟨by simp [h.1], fun i u e => ?_⟩
  rcases Nat.lt_trichotomy i L.length with hi | hi | hi
  · rw [List.getElem?_append_left hi] at e
    obtain ⟨p, e1, l⟩ := h.2 i u e
    exact ⟨p, by rw [List.getElem?_append_left (by rw [h.1]; exact hi)]; exact e1, l⟩
  · subst hi
    rw [List.getElem?_append_right (Nat.le_refl _), Nat.sub_self] at e
    cases (Option.some.inj e)
    exact ⟨q, by rw [List.getElem?_append_right (by rw [h.1]; exact Nat.le_refl _), h.1, Nat.sub_self]; rfl, g⟩
  · rw [List.getElem?_eq_none (by simp; omega)] at e; cases e
theorem at_int {r : List Int} {i x : Int} (i0 : 0 ≤ i) (h : r[i.toNat]? = some x) : atI (r.map V.int) i = some (.int x) := by
  have z := atI_nat (xs := r.map V.int) (j := i.toNat) (v := .int x) (by rw [List.getElem?_map, h]; rfl)
  rwa [show ((i.toNat : Nat) : Int) = i by omega] at z
def SameP (T : Addr) (H H' : Hp) : Prop := ∀ a o, a ≠ T → H a = some o → H' a = some o
theorem prod_one_le : ∀ {ns : List Int}, (∀ n ∈ ns, 0 ≤ n) → 0 ≤ prodI ns ∧ prodI ns ≤ prodI (ns.map one1)
  | [], _ => by decide
  | n :: ns, h => by
    obtain ⟨i0, i1⟩ := prod_one_le (ns := ns) fun m hm => h m (List.mem_cons_of_mem _ hm)
    have n0 := h n List.mem_cons_self
    rw [List.map_cons, prod_cons, prod_cons]
    have o : n ≤ one1 n ∧ 0 ≤ one1 n := by unfold one1; split <;> omega
    exact ⟨Int.mul_nonneg n0 i0, Int.mul_le_mul o.1 i1 i0 o.2⟩
theorem fc0 {α : Type} {p : α → Prop} : ∀ n ∈ ([] : List α), p n := fun _ h => nomatch h
def SmT (H H' : Hp) : Prop := ∀ a o, (∀ ps, o ≠ .tbl ps) → H a = some o → H' a = some o
theorem SmT.refl (H : Hp) : SmT H H := fun _ _ _ e => e
theorem SmT.trans {H H1 H2 : Hp} (h : SmT H H1) (g : SmT H1 H2) : SmT H H2 := fun a o n e => g a o n (h a o n e)
theorem SmT.of {H H' : Hp} (h : Same H H') : SmT H H' := fun a o _ e => h a o e
theorem SmT.tup {H H' : Hp} (h : SmT H H') {a : Addr} {xs : List V} (e : H a = some (.tup xs)) : H' a = some (.tup xs) := h a _ (fun _ z => by cases z) e
theorem SmT.lst {H H' : Hp} (h : SmT H H') {a : Addr} {xs : List V} (e : H a = some (.lst xs)) : H' a = some (.lst xs) := h a _ (fun _ z => by cases z) e
theorem SmT.seq {K : PySem.W.Frag} {H H' : Hp} {a : Addr} {xs : List V} (e : SmT H H') (h : SqL K H a xs) : SqL K H' a xs := by
  rcases h with (h | ⟨o, h⟩) | h
  · exact .inl (.inl (e.lst h))
  · exact .inl (.inr ⟨o, e _ _ (fun _ z => by cases z) h⟩)
  · exact .inr h
theorem SmT.tb {H H' : Hp} (h : SmT H H') {t : Addr} {ns cs : List Int} (e : TbAt H t ns cs) : TbAt H' t ns cs := let ⟨a, c, h1, h2, h3⟩ := e; ⟨a, c, h.tup h1, h.tup h2, h.tup h3⟩
theorem SmT.ofP {H H' : Hp} {T : Addr} {pos : Pos} {qual : Str} (t : TabOk H T pos qual) (h : SameP T H H') : SmT H H' := fun a o n e => h a o (fun z => by
  obtain ⟨ps, h1, _⟩ := t
  rw [z, h1] at e
  exact n ps (Option.some.inj e).symm) e
theorem TabOk.other {H H' : Hp} {T T2 : Addr} {pos pos2 : Pos} {qual qual2 : Str} (ne : T2 ≠ T) (t : TabOk H T pos qual) (t2 : TabOk H T2 pos2 qual2) (h : SameP T H H') : TabOk H' T2 pos2 qual2 := by
  obtain ⟨ps, h1, h2, h3⟩ := t2
  refine ⟨ps, h _ _ ne h1, h2, h3.imp id fun ⟨c', e, g⟩ => ⟨c', e, (SmT.ofP t h) _ _ (fun _ z => by cases z) g⟩⟩
theorem get_some {ns : List Int} {k : Nat} (hk : k < ns.length) : ns[k]? = some (ns.getD k 0) := by rw [List.getD_eq_getElem?_getD, List.getElem?_eq_getElem hk]; rfl
theorem cut_anyH (ns : List Int) (k : Nat) : cutV (ns.map V.int) (some (k : Int)) none = (ns.drop k).map V.int := by
  unfold cutV; simp only [HT.sIx, len_map]; rw [if_neg (by omega), List.take_of_length_le (by simp), ← List.map_drop]; congr 1
  by_cases c : k ≤ ns.length
  · congr 1; omega
  · rw [List.drop_eq_nil_of_le (by omega), List.drop_eq_nil_of_le (by omega)]
theorem repT0 {H : Hp} {p : Addr} {n : Nat} {Q : VK} (hp : H p = some (.tup [V.int 0])) (hn : n ≤ 63) (q : ∀ r H', Same H H' → H' r = some (.tup ((rep0 n).map V.int)) → Q (.ref r) H') : rRepT (V.ref p) (V.int (n : Int)) H Q := by
  refine ⟨p, _, _, rfl, rfl, hp, by simp, ⟨by omega, by omega⟩, ?_, fun e => ?_, fun e r hr => ?_⟩
  · rw [Int.toNat_natCast]; exact small (by simp; omega)
  · have e : n = 1 := by omega
    subst e
    exact q p H (Same.refl _) hp
  · refine q r _ (same_new hr _) ?_
    rw [upd_same, Int.toNat_natCast, rep0_flat]
def wrapI (n : Int) : Int := (n + 9223372036854775808) % 18446744073709551616 - 9223372036854775808
theorem wrap_in (d : Int) : -9223372036854775808 ≤ wrapI d ∧ wrapI d < 9223372036854775808 := by unfold wrapI; omega
theorem wrap_mod (d : Int) : (wrapI d - d) % 18446744073709551616 = 0 := by unfold wrapI; omega
theorem sd_nil : sdOk [] := fun m hm => nomatch hm
theorem big_nil : ¬ bigI [] := by unfold bigI; decide
def sptableof (CT CU : Addr) : Sp := fun vs H Q E => ∃ (a c : Addr) (ns cs : List Int), vs = [.ref a, .ref c] ∧ H a = some (.tup (ns.map V.int)) ∧ RwI H c cs ∧ sdOk ns ∧ ns.length ≤ 63 ∧ cs.length ≤ 900 ∧ (bigI ns → ∀ H', Same H H' → E (.ref CT) none H') ∧ (¬ bigI ns → ¬ (cs.length : Int) = prodI ns → ∀ H', Same H H' → E (.ref CU) none H') ∧ (¬ bigI ns → (cs.length : Int) = prodI ns → ∀ H' p, Same H H' → TbAt H' p ns (cs.map wrapI) → Q (.ref p) H')
def chk (cs : List Int) (S i : Nat) : List Int := (cs.drop (i * S)).take S
def Nest : List Int → List Int → Hp → Hp → V → Prop
  | [], cs, _, _, v => v = .int (cs.getD 0 0)
  | n :: ns, cs, H0, H, v => ∃ (l : Addr) (xs : List V), v = .ref l ∧ H0 l = none ∧ H l = some (.lst xs) ∧ (xs.length : Int) = n ∧ (xs = [] ∨ ∃ (x : V) (rest : List V) (Hm : Hp), xs = x :: rest ∧ Same H0 Hm ∧ Same Hm H ∧ Hm l = none ∧ Nest ns (chk cs (prodI ns).toNat 0) H0 Hm x ∧ ∀ (i : Nat) y, rest[i]? = some y → Nest ns (chk cs (prodI ns).toNat (i + 1)) Hm H y)
theorem same_none {H H' : Hp} (s : Same H H') {l : Addr} (h : H' l = none) : H l = none := by
  cases e : H l with
  | none => rfl
  | some o => rw [s _ _ e] at h; cases h
theorem Nest.up : ∀ {ns cs : List Int} {H0 H H' : Hp} {v : V}, Nest ns cs H0 H v → Same H H' → Nest ns cs H0 H' v
  | [], _, _, _, _, _, h, _ => h
  | n :: ns, cs, H0, H, H', v, h, s => by
    obtain ⟨l, xs, e1, e2, e3, e4, e5⟩ := h
    refine ⟨l, xs, e1, e2, s _ _ e3, e4, e5.imp id ?_⟩
    rintro ⟨x, rest, Hm, f1, f2, f3, f4, f5, f6⟩
    exact ⟨x, rest, Hm, f1, f2, f3.trans s, f4, f5, fun i y hy => (f6 i y hy).up s⟩
theorem Nest.dn : ∀ {ns cs : List Int} {H0 H1 H : Hp} {v : V}, Nest ns cs H1 H v → Same H0 H1 → Nest ns cs H0 H v
  | [], _, _, _, _, _, h, _ => h
  | n :: ns, cs, H0, H1, H, v, h, s => by
    obtain ⟨l, xs, e1, e2, e3, e4, e5⟩ := h
    refine ⟨l, xs, e1, same_none s e2, e3, e4, e5.imp id ?_⟩
    rintro ⟨x, rest, Hm, f1, f2, f3, f4, f5, f6⟩
    exact ⟨x, rest, Hm, f1, s.trans f2, f3, f4, f5.dn s, f6⟩
def CntV : Nat → Hp → V → Int → Prop
  | 0, _, v, m => (∃ n : Int, v = .int n) ∧ m = 1
  | d + 1, H, v, m => ((∃ n : Int, v = .int n) ∧ m = 1) ∨ ∃ (l : Addr) (xs : List V) (ms : List Int), v = .ref l ∧ H l = some (.lst xs) ∧ xs.length = ms.length ∧ xs.length ≤ 900 ∧ ms.sum = m ∧ ∀ (i : Nat) x k, xs[i]? = some x → ms[i]? = some k → CntV d H x k
theorem CntV.up : ∀ {d : Nat} {H H' : Hp} {v : V} {m : Int}, CntV d H v m → Same H H' → CntV d H' v m
  | 0, _, _, _, _, h, _ => h
  | d + 1, _, _, _, _, h, s => Or.imp id (fun ⟨l, xs, ms, e1, e2, e3, e4, e5, f⟩ => ⟨l, xs, ms, e1, s _ _ e2, e3, e4, e5, fun i x k hx hk => (f i x k hx hk).up s⟩) h
theorem sum_rep (n : Nat) (m : Int) : (List.replicate n m).sum = n * m := by
  induction n with
  | zero => show (0 : Int) = (0 : Nat) * m; rw [Int.natCast_zero, Int.zero_mul]
  | succ n ih => rw [List.replicate_succ, List.sum_cons, ih, Int.natCast_add, Int.add_mul, Int.add_comm]; show _ = (n : Int) * m + 1 * m; rw [Int.one_mul]
theorem Nest.cnt : ∀ {ns cs : List Int} {H0 H : Hp} {v : V}, Nest ns cs H0 H v → (∀ n ∈ ns, n ≤ 900) → CntV ns.length H v (prodI ns)
  | [], _, _, _, _, h, _ => ⟨⟨_, h⟩, rfl⟩
  | n :: ns, cs, H0, H, v, h, b => by
    obtain ⟨l, xs, e1, e2, e3, e4, e5⟩ := h
    have n9 := b n List.mem_cons_self
    refine Or.inr ⟨l, xs, List.replicate xs.length (prodI ns), e1, e3, by rw [List.length_replicate], by omega, by rw [sum_rep, e4, prod_cons], fun i x k hx hk => ?_⟩
    have hk' : k = prodI ns := by
      rw [List.getElem?_replicate] at hk
      split at hk <;> cases hk
      rfl
    subst hk'
    rcases e5 with rfl | ⟨x0, rest, Hm, rfl, f2, f3, f4, f5, f6⟩
    · cases hx
    · cases i with
      | zero => cases hx; exact (f5.up f3).cnt fun m hm => b m (List.mem_cons_of_mem _ hm)
      | succ i => exact (f6 i x hx).cnt fun m hm => b m (List.mem_cons_of_mem _ hm)
theorem Nest.cnt_off : ∀ {ns cs : List Int} {H0 H : Hp} {v : V} {l0 : Addr} {o o' : HO}, Nest ns cs H0 H v → (∀ n ∈ ns, n ≤ 900) → H0 l0 = some o → CntV ns.length (upd H l0 o') v (prodI ns)
  | [], _, _, _, _, _, _, _, h, _, _ => ⟨⟨_, h⟩, rfl⟩
  | n :: ns, cs, H0, H, v, l0, o, o', h, b, h0 => by
    obtain ⟨l, xs, e1, e2, e3, e4, e5⟩ := h
    have n9 := b n List.mem_cons_self
    have ne : l ≠ l0 := fun z => by rw [z, h0] at e2; cases e2
    refine Or.inr ⟨l, xs, List.replicate xs.length (prodI ns), e1, by rw [upd_ne ne]; exact e3, by rw [List.length_replicate], by omega, by rw [sum_rep, e4, prod_cons], fun i x k hx hk => ?_⟩
    have hk' : k = prodI ns := by
      rw [List.getElem?_replicate] at hk
      split at hk <;> cases hk
      rfl
    subst hk'
    rcases e5 with rfl | ⟨x0, rest, Hm, rfl, f2, f3, f4, f5, f6⟩
    · cases hx
    · cases i with
      | zero => cases hx; exact (f5.up f3).cnt_off (fun m hm => b m (List.mem_cons_of_mem _ hm)) h0
      | succ i => exact (f6 i x hx).cnt_off (fun m hm => b m (List.mem_cons_of_mem _ hm)) (f2 _ _ h0)
def FstL : List Int → Hp → V → Addr → List V → Prop
  | [], _, _, _, _ => False
  | [_], H, v, l0, ys => v = .ref l0 ∧ H l0 = some (.lst ys)
  | _ :: m :: ns, H, v, l0, ys => ∃ (l : Addr) (x : V) (rest : List V), v = .ref l ∧ H l = some (.lst (x :: rest)) ∧ FstL (m :: ns) H x l0 ys
theorem FstL.at : ∀ {ns : List Int} {H : Hp} {v : V} {l0 : Addr} {ys : List V}, FstL ns H v l0 ys → H l0 = some (.lst ys)
  | [], _, _, _, _, h => h.elim
  | [_], _, _, _, _, h => h.2
  | _ :: m :: ns, _, _, _, _, h => by obtain ⟨_, x, _, _, _, h⟩ := h; exact h.at
theorem Nest.fst : ∀ {ns cs : List Int} {H0 H : Hp} {v : V}, Nest ns cs H0 H v → ns ≠ [] → (∀ n ∈ ns, 0 < n) → ∃ l0 ys, FstL ns H v l0 ys
  | [], _, _, _, _, _, h, _ => absurd rfl h
  | [_], _, _, _, _, h, _, _ => by obtain ⟨l, xs, e1, _, e3, _⟩ := h; exact ⟨l, xs, e1, e3⟩
  | n :: m :: ns, cs, H0, H, v, h, _, b => by
    obtain ⟨l, xs, e1, e2, e3, e4, e5⟩ := h
    have n0 := b n List.mem_cons_self
    rcases e5 with rfl | ⟨x0, rest, Hm, rfl, f2, f3, f4, f5, f6⟩
    · rw [← e4] at n0; exact absurd n0 (by decide)
    · obtain ⟨l0, ys, hf⟩ := (f5.up f3).fst (by simp) fun k hk => b k (List.mem_cons_of_mem _ hk)
      exact ⟨l0, ys, l, x0, rest, e1, e3, hf⟩
theorem FstL.dn : ∀ {ns cs : List Int} {H0 Hm H : Hp} {v : V} {l0 : Addr} {ys : List V}, Nest ns cs H0 Hm v → Same Hm H → FstL ns H v l0 ys → Hm l0 = some (.lst ys)
  | [], _, _, _, _, _, _, _, _, _, h => h.elim
  | [_], _, _, _, _, _, _, _, h, s, f => by
    obtain ⟨l, xs, e1, _, e3, _⟩ := h
    cases e1.symm.trans f.1
    have := s _ _ e3
    rw [f.2] at this
    rw [e3, this]
  | n :: m :: ns, cs, H0, Hm, H, v, l0, ys, h, s, f => by
    obtain ⟨l, xs, e1, e2, e3, e4, e5⟩ := h
    obtain ⟨l', x', rest', g1, g2, g3⟩ := f
    cases e1.symm.trans g1
    have e6 := s _ _ e3
    rw [g2] at e6
    cases e6
    rcases e5 with e | ⟨x0, rest, Hk, e, f2, f3, f4, f5, f6⟩
    · cases e
    · cases e
      exact f3 _ _ (FstL.dn f5 (f3.trans s) g3)
theorem Nest.cnt_on : ∀ {ns cs : List Int} {H0 H : Hp} {v : V} {l0 : Addr} {ys : List V} {z : Int}, Nest ns cs H0 H v → (∀ n ∈ ns, n ≤ 899) → FstL ns H v l0 ys → CntV ns.length (upd H l0 (.lst (ys ++ [.int z]))) v (prodI ns + 1)
  | [], _, _, _, _, _, _, _, _, _, h => h.elim
  | [n], cs, H0, H, v, l0, ys, z, h, b, f => by
    obtain ⟨l, xs, e1, e2, e3, e4, e5⟩ := h
    cases e1.symm.trans f.1
    rw [f.2] at e3
    cases e3
    have n9 := b n List.mem_cons_self
    refine Or.inr ⟨_, ys ++ [.int z], List.replicate (ys.length + 1) 1, e1, upd_same, by simp, by simp; omega, ?_, fun i x k hx hk => ?_⟩
    · rw [sum_rep, prod_cons]
      show ((ys.length + 1 : Nat) : Int) * 1 = n * 1 + 1
      omega
    · have hk' : k = 1 := by
        rw [List.getElem?_replicate] at hk
        split at hk <;> cases hk
        rfl
      refine ⟨?_, hk'⟩
      rcases List.mem_append.mp (List.mem_of_getElem? hx) with hm | hm
      · rcases e5 with rfl | ⟨x0, rest, Hm, rfl, f2, f3, f4, f5, f6⟩
        · cases hm
        · rcases List.mem_cons.mp hm with rfl | hm
          · exact ⟨_, f5⟩
          · obtain ⟨j, hj⟩ := List.mem_iff_getElem?.mp hm
            exact ⟨_, f6 j x hj⟩
      · exact ⟨z, List.mem_singleton.mp hm⟩
  | n :: m :: ns, cs, H0, H, v, l0, ys, z, h, b, f => by
    obtain ⟨l, xs, e1, e2, e3, e4, e5⟩ := h
    obtain ⟨l', x', rest', g1, g2, g3⟩ := f
    cases e1.symm.trans g1
    rw [g2] at e3
    cases e3
    have n9 := b n List.mem_cons_self
    have b' : ∀ k ∈ m :: ns, k ≤ 899 := fun k hk => b k (List.mem_cons_of_mem _ hk)
    rcases e5 with e | ⟨x0, rest, Hm, e, f2, f3, f4, f5, f6⟩
    · cases e
    cases e
    have hm0 : Hm l0 = some (.lst ys) := FstL.dn f5 f3 g3
    have ne : l ≠ l0 := fun w => by rw [w, hm0] at f4; cases f4
    refine Or.inr ⟨l, x' :: rest', (prodI (m :: ns) + 1) :: List.replicate rest'.length (prodI (m :: ns)), e1, by rw [upd_ne ne]; exact g2, by simp, by omega, ?_, fun i x k hx hk => ?_⟩
    · rw [List.sum_cons, sum_rep, prod_cons n, ← e4]
      show _ = ((rest'.length + 1 : Nat) : Int) * prodI (m :: ns) + 1
      rw [Int.natCast_add, Int.add_mul]
      show _ = (rest'.length : Int) * prodI (m :: ns) + 1 * prodI (m :: ns) + 1
      omega
    · cases i with
      | zero => cases hx; cases hk; exact (f5.up f3).cnt_on b' g3
      | succ i =>
        have hk' : k = prodI (m :: ns) := by
          rw [List.getElem?_cons_succ, List.getElem?_replicate] at hk
          split at hk <;> cases hk
          rfl
        subst hk'
        exact (f6 i x hx).cnt_off (fun k hk => by have := b' k hk; omega) hm0
theorem cut_chk {cs : List Int} {S : Int} {i : Nat} (h0 : 0 ≤ S) (hb : ((i : Int) + 1) * S ≤ cs.length) : cutV (cs.map V.int) (some ((0 + (i : Int)) * S)) (some ((0 + (i : Int) + 1) * S)) = (chk cs S.toNat i).map V.int := by
  obtain ⟨s, rfl⟩ : ∃ s : Nat, S = (s : Int) := ⟨S.toNat, by omega⟩
  have e1 : (0 + (i : Int)) * (s : Int) = ((i * s : Nat) : Int) := by rw [Int.zero_add, Int.natCast_mul]
  have e2 : (0 + (i : Int) + 1) * (s : Int) = ((i * s + s : Nat) : Int) := by rw [Int.zero_add, Int.add_mul, Int.one_mul, Int.natCast_add, Int.natCast_mul]
  have hb' : i * s + s ≤ cs.length := by
    rw [Int.add_mul, Int.one_mul] at hb
    have : ((i * s + s : Nat) : Int) ≤ cs.length := by rw [Int.natCast_add, Int.natCast_mul]; exact hb
    omega
  rw [e1, e2]
  unfold cutV chk
  simp only [HT.sIx, len_map]
  rw [if_neg (by omega), if_neg (by omega), Int.toNat_natCast, Int.toNat_natCast, Int.toNat_natCast, Nat.min_eq_left hb', Nat.min_eq_left (show i * s ≤ cs.length by omega), List.map_take, List.map_drop, Nat.add_sub_cancel_left]
theorem chk_len {cs : List Int} {S n : Int} {i : Nat} (h0 : 0 ≤ S) (hn : (i : Int) < n) (cl : (cs.length : Int) = n * S) : ((chk cs S.toNat i).length : Int) = S ∧ ((i : Int) + 1) * S ≤ cs.length := by
  have e := Int.mul_le_mul_of_nonneg_right (show (i : Int) + 1 ≤ n by omega) h0
  have e' : ((i : Int) + 1) * S ≤ cs.length := by rw [cl]; exact e
  refine ⟨?_, e'⟩
  obtain ⟨s, rfl⟩ : ∃ s : Nat, S = (s : Int) := ⟨S.toNat, by omega⟩
  have hb' : i * s + s ≤ cs.length := by
    rw [Int.add_mul, Int.one_mul] at e'
    have : ((i * s + s : Nat) : Int) ≤ cs.length := by rw [Int.natCast_add, Int.natCast_mul]; exact e'
    omega
  unfold chk
  rw [List.length_take, List.length_drop, Int.toNat_natCast]
  omega
theorem snoc_at {α : Type} {xs : List α} {x y : α} {i : Nat} (h : (xs ++ [x])[i]? = some y) : xs[i]? = some y ∨ y = x ∧ i = xs.length := by
  by_cases c : i < xs.length
  · rw [List.getElem?_append_left c] at h; exact .inl h
  · have l := (List.getElem?_eq_some_iff.mp h).1
    rw [List.length_append] at l
    have e : i = xs.length := by have : i < xs.length + 1 := l; omega
    subst e
    rw [List.getElem?_append_right (Nat.le_refl _), Nat.sub_self] at h
    exact .inr ⟨(Option.some.inj h).symm, rfl⟩
theorem ref_at {ps : List Addr} {i : Nat} {x : V} (h : (ps.map V.ref)[i]? = some x) : ∃ r, x = .ref r ∧ ps[i]? = some r := by
  rw [List.getElem?_map] at h
  obtain ⟨r, e, rfl⟩ := Option.map_eq_some_iff.mp h
  exact ⟨r, rfl, e⟩
theorem nest_step {ns cs : List Int} {S : Nat} {H G Gc G' : Hp} {v : V} {ys : List V} (hy : ys = [] ∨ ∃ (x : V) (rest : List V) (Hm : Hp), ys = x :: rest ∧ Same H Hm ∧ Same Hm G ∧ Nest ns (chk cs S 0) H Hm x ∧ ∀ (i : Nat) y, rest[i]? = some y → Nest ns (chk cs S (i + 1)) Hm G y) (s0 : Same H Gc) (sc : Same G Gc) (s' : Same Gc G') (nv : Nest ns (chk cs S ys.length) Gc G' v) :
    ∃ x rest, ys ++ [v] = x :: rest ∧ ∃ Hm, Same H Hm ∧ Same Hm G' ∧ Nest ns (chk cs S 0) H Hm x ∧ ∀ (i : Nat) y, rest[i]? = some y → Nest ns (chk cs S (i + 1)) Hm G' y := by
  rcases hy with rfl | ⟨x, rest, Hm, rfl, f2, f3, f4, f5⟩
  · exact ⟨v, [], rfl, G', s0.trans s', Same.refl _, nv.dn s0, fun i y e => by cases e⟩
  · refine ⟨x, rest ++ [v], rfl, Hm, f2, f3.trans (sc.trans s'), f4, fun i y hy => ?_⟩
    rcases snoc_at hy with h | ⟨rfl, rfl⟩
    · exact (f5 i y h).up (sc.trans s')
    · exact nv.dn (f3.trans sc)
theorem flat_all {cs : List Int} {m : Nat} {n S : Int} (e : (m : Int) = n) (cl : (cs.length : Int) = n * S) (h : 0 ≤ S) : cs.take (m * S.toNat) = cs := by
  obtain ⟨s, rfl⟩ : ∃ s : Nat, S = (s : Int) := ⟨S.toNat, by omega⟩
  rw [← e, ← Int.natCast_mul] at cl
  rw [Int.toNat_natCast]
  exact List.take_of_length_le (by omega)
theorem flat_snoc (cs : List Int) (i S : Nat) : (cs.take ((i + 1) * S)).map V.int = (cs.take (i * S)).map V.int ++ (chk cs S i).map V.int := by
  unfold chk
  rw [Nat.succ_mul, List.take_add, List.map_append]
theorem same_put {H H' : Hp} (s : Same H H') {l : Addr} {o : HO} (h : H l = none) : Same H (upd H' l o) := fun a x e => by
  have ne : a ≠ l := fun z => by rw [z, h] at e; cases e
  rw [upd_ne ne]; exact s _ _ e
theorem FstL.new : ∀ {ns cs : List Int} {H0 H : Hp} {v : V} {l0 : Addr} {ys : List V}, Nest ns cs H0 H v → FstL ns H v l0 ys → H0 l0 = none
  | [], _, _, _, _, _, _, _, h => h.elim
  | [_], _, _, _, _, _, _, h, f => by
    obtain ⟨l, xs, e1, e2, _⟩ := h
    cases e1.symm.trans f.1
    exact e2
  | n :: m :: ns, cs, H0, H, v, l0, ys, h, f => by
    obtain ⟨l, xs, e1, e2, e3, e4, e5⟩ := h
    obtain ⟨l', x', rest', g1, g2, g3⟩ := f
    cases e1.symm.trans g1
    rw [g2] at e3
    cases e3
    rcases e5 with e | ⟨x0, rest, Hm, e, f2, f3, f4, f5, f6⟩
    · cases e
    · cases e
      exact FstL.new (f5.up f3) g3
theorem pos_ofS {ns : List Int} (hs : sdOk ns) (h : ¬ prodI ns = 0) : ∀ n ∈ ns, 0 < n := fun n hn => by
  have a := prod_nz (ns := ns) h n hn
  have b := hs n hn
  omega
theorem CntV.le : ∀ {d d' : Nat} {H : Hp} {v : V} {m : Int}, CntV d H v m → d ≤ d' → CntV d' H v m
  | 0, 0, _, _, _, h, _ => h
  | 0, _ + 1, _, _, _, h, _ => Or.inl h
  | _ + 1, 0, _, _, _, _, l => absurd l (by omega)
  | d + 1, d' + 1, _, _, _, h, l => Or.imp id (fun ⟨a, xs, ms, e1, e2, e3, e4, e5, f⟩ => ⟨a, xs, ms, e1, e2, e3, e4, e5, fun i x k hx hk => (f i x k hx hk).le (by omega)⟩) h
theorem fst_end {ns : List Int} {i : Nat} {H : Hp} {x : V} {l0 : Addr} {ys : List V} (h : i + 1 = ns.length) (f : FstL (ns.drop i) H x l0 ys) : x = .ref l0 ∧ H l0 = some (.lst ys) := by
  have l := List.length_drop (i := i) (l := ns)
  generalize ns.drop i = ms at *
  match ms, l, f with
  | [], l, f => exact f.elim
  | [_], _, f => exact f
  | _ :: _ :: _, l, _ => simp at l; omega
theorem fst_step {ns : List Int} {i : Nat} {H : Hp} {x : V} {l0 : Addr} {ys : List V} (h : i + 1 < ns.length) (f : FstL (ns.drop i) H x l0 ys) : ∃ l y rest, x = .ref l ∧ H l = some (.lst (y :: rest)) ∧ FstL (ns.drop (i + 1)) H y l0 ys := by
  have l := List.length_drop (i := i) (l := ns)
  have e : ns.drop (i + 1) = (ns.drop i).drop 1 := by rw [List.drop_drop]
  rw [e]
  clear e
  generalize ns.drop i = ms at *
  match ms, l, f with
  | [], l, f => exact f.elim
  | [_], l, _ => simp at l; omega
  | _ :: _ :: _, _, f => exact f
theorem FstL.len : ∀ {ns cs : List Int} {H0 H : Hp} {v : V} {l0 : Addr} {ys : List V}, Nest ns cs H0 H v → (∀ n ∈ ns, n ≤ 899) → FstL ns H v l0 ys → ys.length ≤ 899
  | [], _, _, _, _, _, _, _, _, h => h.elim
  | [n], _, _, _, _, _, _, h, b, f => by
    obtain ⟨l, xs, e1, e2, e3, e4, _⟩ := h
    cases e1.symm.trans f.1
    rw [f.2] at e3
    cases e3
    have := b n List.mem_cons_self
    omega
  | n :: m :: ns, cs, H0, H, v, l0, ys, h, b, f => by
    obtain ⟨l, xs, e1, e2, e3, e4, e5⟩ := h
    obtain ⟨l', x', rest', g1, g2, g3⟩ := f
    cases e1.symm.trans g1
    rw [g2] at e3
    cases e3
    rcases e5 with e | ⟨x0, rest, Hm, e, f2, f3, f4, f5, f6⟩
    · cases e
    · cases e
      exact FstL.len (f5.up f3) (fun k hk => b k (List.mem_cons_of_mem _ hk)) g3
theorem isi_or {X : Cx} {f : Value} {r1 r2 : List V → Hp → VK → Prop} (h1 : CallR X f r1) (h2 : CallR X f r2) : CallR X f (fun xs H Q => r1 xs H Q ∨ r2 xs H Q) := fun pins s σ H xs us Q I r h => h.elim (fun y => h1 pins s σ H xs us Q I r y) (fun y => h2 pins s σ H xs us Q I r y)
def fl : Nat → List Nat
  | 0 => [1]
  | k + 1 => (fl k).flatMap fun s => [s, s * 2, s * 3]
def flD : List Nat := [1, 2, 3, 4, 6, 8, 9, 12, 16, 18, 24, 27, 32, 36, 48, 54, 72, 81, 108, 162, 243]
theorem fl_in : ∀ k, k < 6 → ∀ s ∈ fl k, s ∈ flD := by decide +kernel
theorem wide_ok : ∀ s ∈ flD, ∀ w, w < 401 → (w + s - 1) / s * s ≤ 512 ∧ w ≤ (w + s - 1) / s * s := by decide +kernel
theorem flD_le : ∀ s ∈ flD, 1 ≤ s ∧ s ≤ 243 := by decide +kernel
theorem fl_step {i s t : Nat} (h : s ∈ fl i) (ht : t = 1 ∨ t = 2 ∨ t = 3) : s * t ∈ fl (i + 1) := by
  refine List.mem_flatMap.mpr ⟨s, h, ?_⟩
  rcases ht with rfl | rfl | rfl <;> simp
theorem side_step {ls : List Int} {i s : Nat} {n : Int} (hs : s ∈ fl i) (ll : ls.length = i) (pr : prodI (ls.map one1) = (s : Int)) (b3 : ∀ m ∈ ls, 0 ≤ m ∧ m ≤ 3) (n0 : 0 ≤ n) (n3 : n ≤ 3) :
    ∃ l2, ls.map V.int ++ [V.int n] = List.map V.int l2 ∧ l2.length = i + 1 ∧ ∃ x, x ∈ fl (i + 1) ∧ prodI (l2.map one1) = (x : Int) ∧ (∀ m ∈ l2, 0 ≤ m ∧ m ≤ 3) ∧ ((s : Int) * if n > 1 then n else 1) = (x : Int) := by
  have e1 : one1 n = if n > 1 then n else 1 := by unfold one1; split <;> split <;> omega
  obtain ⟨t, et, ht⟩ : ∃ t : Nat, (t : Int) = (if n > 1 then n else 1) ∧ (t = 1 ∨ t = 2 ∨ t = 3) := by
    refine ⟨(if n > 1 then n else 1).toNat, ?_, ?_⟩ <;> split <;> omega
  refine ⟨ls ++ [n], by rw [List.map_append]; rfl, by rw [List.length_append, ll]; rfl, s * t, fl_step hs ht, ?_, fun m hm => ?_, by rw [← et, Int.natCast_mul]⟩
  · rw [List.map_append]
    show prodI (ls.map one1 ++ [one1 n]) = _
    rw [prod_app, pr, Int.natCast_mul, et, ← e1]
  · rcases List.mem_append.mp hm with h | h
    · exact b3 m h
    · cases List.mem_singleton.mp h; exact ⟨n0, n3⟩
theorem prod_ins (l : List Int) (x : Int) : ∀ k, prodI (l.take k ++ x :: l.drop k) = x * prodI l := fun k => by
  induction l generalizing k with
  | nil => rw [List.take_nil, List.drop_nil, List.nil_append, prod_cons]
  | cons y l ih =>
    cases k with
    | zero => rw [List.take_zero, List.drop_zero, List.nil_append, prod_cons]
    | succ k => rw [List.take_succ_cons, List.drop_succ_cons, List.cons_append, prod_cons, ih k, prod_cons, Int.mul_left_comm]
theorem one_small {x : Int} (h : 0 ≤ x) : one1 x = x ∨ (x = 0 ∧ one1 x = 1) := by unfold one1; split <;> omega
theorem sides_ok {ls : List Int} {s wd : Nat} (hs : s ∈ flD) (pr : prodI (ls.map one1) = (s : Int)) (b3 : ∀ m ∈ ls, 0 ≤ m ∧ m ≤ 3) (l5 : ls.length ≤ 5) (w4 : wd < 401) :
    (∀ k : Nat, sdOk (ls.take k ++ (((wd : Int) + s - 1) / s) :: ls.drop k) ∧ ¬ bigI (ls.take k ++ (((wd : Int) + s - 1) / s) :: ls.drop k) ∧ (ls.take k ++ (((wd : Int) + s - 1) / s) :: ls.drop k).length ≤ 6 ∧ ∀ n ∈ ls.take k ++ (((wd : Int) + s - 1) / s) :: ls.drop k, n ≤ 899) ∧ sdOk ls ∧ ¬ bigI ls ∧ ls.length ≤ 6 ∧ ∀ n ∈ ls, n ≤ 899 := by
  have f := flD_le s hs
  have wo := wide_ok s hs wd w4
  have ed : ((wd : Int) + s - 1) / s = (((wd + s - 1) / s : Nat) : Int) := by
    rw [Int.natCast_ediv, Int.natCast_sub (by omega), Int.natCast_add]; rfl
  rw [ed]
  have x9 : (wd + s - 1) / s ≤ 899 := Nat.le_trans (Nat.div_le_self _ _) (by omega)
  generalize (wd + s - 1) / s = x at *
  have sd : sdOk ls := fun m hm => by have := b3 m hm; omega
  have nb : prodI (ls.map one1) ≤ 512 := by rw [pr]; omega
  refine ⟨fun k => ?_, sd, fun z => z.elim (by omega) (by omega), by omega, fun m hm => by have := b3 m hm; omega⟩
  have mem : ∀ m ∈ ls.take k ++ (x : Int) :: ls.drop k, m ∈ ls ∨ m = x := fun m hm => by
    rcases List.mem_append.mp hm with h | h
    · exact .inl (List.mem_of_mem_take h)
    · rcases List.mem_cons.mp h with h | h
      · exact .inr h
      · exact .inl (List.mem_of_mem_drop h)
  have len : (ls.take k ++ (x : Int) :: ls.drop k).length = ls.length + 1 := by
    rw [List.length_append, List.length_cons, List.length_take, List.length_drop]; omega
  refine ⟨fun m hm => ?_, fun z => ?_, by omega, fun m hm => ?_⟩
  · rcases mem m hm with h | rfl
    · exact sd m h
    · omega
  · rcases z with z | z
    · omega
    · rw [List.map_append, List.map_cons, List.map_take, List.map_drop, prod_ins, pr] at z
      have xs : (x : Int) * s ≤ 512 := by rw [← Int.natCast_mul]; omega
      rcases one_small (x := (x : Int)) (by omega) with e | ⟨_, e⟩
      · rw [e] at z; omega
      · rw [e] at z; omega
  · rcases mem m hm with h | rfl
    · have := b3 m h; omega
    · omega
theorem nat0' (j : Nat) : (0 : Int) ≤ (j : Int) := by omega
def spcellat (C : Addr) : Sp := fun vs H Q E => ∃ (ta b : Addr) (ns cs ms : List Int), vs = [.ref ta, .ref b] ∧ TbAt H ta ns cs ∧ H b = some (.tup (ms.map V.int)) ∧ sdOk ns ∧ ns.length ≤ 63 ∧ ms.length ≤ 70 ∧ (cs.length : Int) = prodI ns ∧ (¬ good ns ms → ∀ H', Same H H' → E (.ref C) none H') ∧ (good ns ms → ∀ H', Same H H' → Q (.int (cs.getD (plH ns ms).toNat 0)) H')
def badAt (ns : List Int) (H : Hp) (r : Addr) : Prop := ∃ ms : List Int, H r = some (.tup (ms.map V.int)) ∧ ms.length ≤ 70 ∧ ¬ good ns ms
theorem badAt.up {ns : List Int} {H H' : Hp} {r : Addr} (h : badAt ns H r) (s : Same H H') : badAt ns H' r := let ⟨ms, a, b, c⟩ := h; ⟨ms, s _ _ a, b, c⟩
theorem bad_len {ns ms : List Int} {H : Hp} {r : Addr} (h : H r = some (.tup (ms.map V.int))) (l : ms.length ≤ 70) (n : ms.length ≠ ns.length) : badAt ns H r := ⟨ms, h, l, fun g => n g.1⟩
theorem bad_mid {ns L R : List Int} {k : Nat} {n o : Int} {H : Hp} {r : Addr} (h : H r = some (.tup ((L ++ [o] ++ R).map V.int))) (l : L.length + R.length ≤ 69) (hL : L.length = k) (hn : ns[k]? = some n) (ho : o < 0 ∨ n ≤ o) : badAt ns H r := ⟨_, h, by rw [List.length_append, List.length_append, List.length_singleton]; omega, fun g => by
  have e : (L ++ [o] ++ R)[k]? = some o := by
    rw [List.getElem?_append_left (by rw [List.length_append, List.length_singleton]; omega), List.getElem?_append_right (by omega), hL, Nat.sub_self]; rfl
  have := g.2 k o n e hn
  omega⟩
theorem ask_add {ns : List Int} {H : Hp} {ps rs : List Addr} {p : Addr} {c : Nat} (hps : ∀ q ∈ ps, badAt ns H q) (hr : ∀ q ∈ rs, badAt ns H q) (hc : ps.length + rs.length ≤ c) (hp : H p = none) : askOk ns (upd H p (.lst (ps.map V.ref ++ rs.map V.ref))) p c :=
  ⟨ps ++ rs, by rw [upd_same, List.map_append], by rw [List.length_append]; exact hc, fun q hq => ((List.mem_append.mp hq).elim (hps q) (hr q)).up (same_new hp _)⟩
theorem ask_put {ns : List Int} {H : Hp} {ps : List Addr} {l r : Addr} {c : Nat} (hl : H l = some (.lst (ps.map V.ref))) (hps : ∀ q ∈ ps, badAt ns H q) (hr : badAt ns H r) (hc : ps.length + 1 ≤ c) : askOk ns (upd H l (.lst (ps.map V.ref ++ [V.ref r]))) l c := by
  have up : ∀ q, badAt ns H q → badAt ns (upd H l (.lst (ps.map V.ref ++ [V.ref r]))) q := fun q ⟨ms, a, b, g⟩ => ⟨ms, by rw [upd_ne (fun z => by rw [z, hl] at a; cases a)]; exact a, b, g⟩
  refine ⟨ps ++ [r], by rw [upd_same, List.map_append]; rfl, by rw [List.length_append]; exact hc, fun q hq => ?_⟩
  rcases List.mem_append.mp hq with h | h
  · exact up q (hps q h)
  · cases List.mem_singleton.mp h; exact up r hr
theorem not_self {n : Int} {ns : List Int} : ¬ good (n :: ns) (n :: ns) := fun g => by have := g.2 0 n n rfl rfl; omega
theorem all_cons {P : Addr → Prop} {a : Addr} {l : List Addr} (h : P a) (t : ∀ q ∈ l, P q) : ∀ q ∈ a :: l, P q := fun q hq => (List.mem_cons.mp hq).elim (fun e => e ▸ h) (t q)
theorem all_nil {P : Addr → Prop} : ∀ q ∈ ([] : List Addr), P q := fun _ h => nomatch h
theorem tb_alk {H : Hp} {t t' : Addr} {ns cs : List Int} (h1 : TbAt H t ns cs) (h2 : TbAt H t' ns cs) : AlkV H 9 (.ref t) (.ref t') := by
  obtain ⟨a, c, x1, x2, x3⟩ := h1
  obtain ⟨a', c', y1, y2, y3⟩ := h2
  refine .inr ⟨t, t', _, _, rfl, rfl, .inr ⟨x1, y1⟩, rfl, fun i z w e1 e2 => ?_⟩
  match i, e1, e2 with
  | 0, e1, e2 => cases e1; cases e2; exact AlkV.tup x2 y2 (flat_ints _)
  | 1, e1, e2 => cases e1; cases e2; exact AlkV.tup x3 y3 (flat_ints _)
  | _ + 2, e1, _ => cases e1
theorem sd7 : sdOk [1, 1, 1, 1, 1, 1, 1] := by unfold sdOk; decide
theorem prod_512 {ns : List Int} (hs : sdOk ns) (h : ¬ bigI ns) : 0 ≤ prodI ns ∧ prodI ns ≤ 512 := by
  have e := prod_one_le (ns := ns) fun n hn => (hs n hn).1
  refine ⟨e.1, Int.le_trans e.2 ?_⟩
  unfold bigI at h
  omega
theorem big_9 {ns : List Int} (hs : sdOk ns) : bigI ((9 : Int) :: 57 :: ns) := by
  have p : 0 < prodI (ns.map one1) := prod_pos fun n hn => by
    obtain ⟨m, hm, rfl⟩ := List.mem_map.mp hn
    have := hs m hm
    unfold one1; split <;> omega
  unfold bigI
  rw [List.map_cons, List.map_cons, prod_cons, prod_cons, show one1 9 = 9 from by decide, show one1 57 = 57 from by decide]
  generalize prodI (ns.map one1) = z at *
  omega
theorem sd_9 {ns : List Int} (hs : sdOk ns) : sdOk ((9 : Int) :: 57 :: ns) := fun n hn => by
  rcases List.mem_cons.mp hn with rfl | hn
  · omega
  rcases List.mem_cons.mp hn with rfl | hn
  · omega
  exact hs n hn
abbrev samount : Stmt := top 13
def spamount : Sp := fun vs H Q _ => ∃ (a : Addr) (ns : List Int), vs = [.ref a] ∧ (H a = some (.lst (ns.map V.int)) ∨ H a = some (.tup (ns.map V.int))) ∧ sdOk ns ∧ Q (.int (prodI ns)) H
section
variable {P : Program} {w : World} {K : PySem.W.Frag} {mg : Str → Option Value} {base : Heap} {f : Addr} {fd : FuncData}
theorem scamount : FnScope ["sides", "product", "side"] ["sides"] (defScope samount) := ⟨rfl, rfl, rfl, by decide +kernel, rfl, by decide +kernel, by decide +kernel⟩
theorem okamount (F : Fun K "amount" "amount" samount f fd) : FnOk P w K mg base CX0 (1) f fd ["sides"] (spamount) := by
  have sc := scamount
  refine F.ok sc (fun vs H Q E h => ?_) (fun cdv A outer s H vs Q E hr h => ?_)
  · obtain ⟨a, ns, rfl, _⟩ := h; rfl
  obtain ⟨a, ns, rfl, ha | ha, hs, q⟩ := h
  · refine ⟨_, (pss_cons (ps_set (i := 1) sc.nd rfl (by first | exact Or.inl rfl | exact Or.inr rfl) pe_int) (pss_cons (ps_for PassesOwn.never rfl (pi_list (pv 0)) (pg_name (i := 2) sc.nd rfl (Or.inl rfl)) (pss_one (ps_set (i := 1) sc.nd rfl (by first | exact Or.inl rfl | exact Or.inr rfl) (pe_op op_mul (pv 1) (pv 2))))) (pss_one (ps_ret (pv 1))))), ?_⟩
    wp_walk using rRepT
    refine LoopL.mk (xs := ns.map V.int) (.of ha) (fun i σ H' => H' = H ∧ ∃ y, σ = [some (.ref a), some (.int (prodI (ns.take i))), y]) ⟨rfl, _, rfl⟩ (fun i σ H' _ h => by rw [h.1]; exact .of ha) (fun i x σ H' e h => ?_) (fun σ H' h => ?_)
    · obtain ⟨h1, y, rfl⟩ := h
      subst h1
      obtain ⟨m, rfl, hm, m0, m1⟩ := sd_at hs e
      wp_walk using rRepT
      rw [prod_step hm]
      exact ⟨.inr ⟨by omega, by omega⟩, rfl, _, rfl⟩
    · obtain ⟨h1, y, rfl⟩ := h
      subst h1
      wp_walk using rRepT
      rw [len_map, List.take_length]
      exact q
  · refine ⟨_, (pss_cons (ps_set (i := 1) sc.nd rfl (by first | exact Or.inl rfl | exact Or.inr rfl) pe_int) (pss_cons (ps_for PassesOwn.never rfl (pi_tup (pv 0)) (pg_name (i := 2) sc.nd rfl (Or.inl rfl)) (pss_one (ps_set (i := 1) sc.nd rfl (by first | exact Or.inl rfl | exact Or.inr rfl) (pe_op op_mul (pv 1) (pv 2))))) (pss_one (ps_ret (pv 1))))), ?_⟩
    wp_walk using rRepT
    refine LoopT.mk (xs := ns.map V.int) (.of ha) (fun i σ H' => H' = H ∧ ∃ y, σ = [some (.ref a), some (.int (prodI (ns.take i))), y]) ⟨rfl, _, rfl⟩ (fun i σ H' _ h => by rw [h.1]; exact .of ha) (fun i x σ H' e h => ?_) (fun σ H' h => ?_)
    · obtain ⟨h1, y, rfl⟩ := h
      subst h1
      obtain ⟨m, rfl, hm, m0, m1⟩ := sd_at hs e
      wp_walk using rRepT
      rw [prod_step hm]
      exact ⟨.inr ⟨by omega, by omega⟩, rfl, _, rfl⟩
    · obtain ⟨h1, y, rfl⟩ := h
      subst h1
      wp_walk using rRepT
      rw [len_map, List.take_length]
      exact q
end
abbrev sbreadth : Stmt := top 14
def spbreadth : Sp := fun vs H Q _ => ∃ (a : Addr) (ns : List Int), vs = [.ref a] ∧ H a = some (.tup (ns.map V.int)) ∧ sdOk ns ∧ ns.length ≤ 63 ∧ ∀ H', Same H H' → Q (.int (prodI (ns.map one1))) H'
section
variable {P : Program} {w : World} {K : PySem.W.Frag} {mg : Str → Option Value} {base : Heap} {f : Addr} {fd : FuncData}
theorem scbreadth : FnScope ["sides"] ["sides"] (defScope sbreadth) := ⟨rfl, rfl, rfl, by decide +kernel, rfl, by decide +kernel, by decide +kernel⟩
theorem okbreadth (F : Fun K "breadth" "breadth" sbreadth f fd) (camount : Callee P w K mg base CX0 (1) "amount" ["sides"] spamount) : FnOk P w K mg base CX0 (2) f fd ["sides"] (spbreadth) := by
  have sc := scbreadth
  refine F.ok sc (fun vs H Q E h => ?_) (fun cdv A outer s H vs Q E hr h => ?_)
  · obtain ⟨a, ns, rfl, _⟩ := h; rfl
  obtain ⟨a, ns, rfl, ha, hs, h63, q⟩ := h
  refine ⟨_, (pss_one (ps_ret (pe_cal camount hr (by rfl) pass0 (pa_cons (pe_comp0 (own := ["side"]) rfl (pi_tup (pv 0)) (by decide) (by decide) rfl (by decide) (fun _ _ _ _ => (pg_name (i := 0) (show (["side"] : List Str).Nodup by decide +kernel) rfl (Or.inl rfl))) (fun _ _ _ _ => (pe_ifExp (pt_cmpR op_ne (pv 0) pe_int (nomark _)) (pv 0) pe_int))) pa_nil)))), ?_⟩
  wp_walk using rRepT
  refine CompT.mk (xs := ns.map V.int) (.of ha) (fun i ys σ H' => H' = H ∧ ys = ((ns.take i).map one1).map V.int ∧ ∃ y, σ = [y]) ⟨rfl, rfl, _, rfl⟩ (fun i ys σ H' _ h => by rw [h.1]; exact .of ha) (fun i x ys σ H' e h => ?_) (fun ys σ H' h p hp => ?_)
  · obtain ⟨h1, h2, y, rfl⟩ := h
    subst h1 h2
    obtain ⟨m, rfl, hm, m0, m1⟩ := sd_at hs e
    have e1 : ((ns.take (i + 1)).map one1).map V.int = ((ns.take i).map one1).map V.int ++ [V.int (one1 m)] := by
      rw [List.take_add_one, hm, List.map_append, List.map_append]; rfl
    have e2 : (((ns.take i).map one1).map V.int).length < sizeLine := by
      rw [List.length_map, List.length_map, List.length_take]; exact small1000 (by omega)
    wp_walk using rRepT, e1
    refine ⟨e2, ?_⟩
    unfold one1
    by_cases m2 : m = 0
    · simp [m2]
    · simp [m2]
  · obtain ⟨h1, h2, y, rfl⟩ := h
    subst h1 h2
    rw [len_map, List.take_length]
    exact ⟨p, _, rfl, .inl upd_same, one_ok hs, q _ (same_new hp _)⟩
end
abbrev sallowed : Stmt := top 15
section
variable {P : Program} {w : World} {K : PySem.W.Frag} {mg : Str → Option Value} {base : Heap} {f : Addr} {fd : FuncData}
theorem scallowed : FnScope ["sides"] ["sides"] (defScope sallowed) := ⟨rfl, rfl, rfl, by decide +kernel, rfl, by decide +kernel, by decide +kernel⟩
theorem okallowed (F : Fun K "allowed" "allowed" sallowed f fd) {CTooLarge : Addr} (nTooLarge : PySem.W.nsIn K mainGlobals "TooLarge" = some (some (.ref CTooLarge))) (cbreadth : Callee P w K mg base CX0 (2) "breadth" ["sides"] spbreadth) (zlen : mg "len" = none) {tMOST_SIDES : Tok} (gMOST_SIDES : mg "MOST_SIDES" = some (.int 6 tMOST_SIDES)) {tMOST_BREADTH : Tok} (gMOST_BREADTH : mg "MOST_BREADTH" = some (.int 512 tMOST_BREADTH)) (xTooLarge : PySem.W.excIn K CTooLarge [.type "ValueError", .type "Exception", .type "BaseException", .type "object"] "ValueError.__new__" = true) : FnOk P w K mg base (CX1 P w) (3) f fd ["sides"] ((spallowed CTooLarge)) := by
  have sc := scallowed
  refine F.okX sc (fun vs H Q E h => ?_) (fun cdv A outer s H vs Q E hr h => ?_)
  · obtain ⟨a, ns, rfl, _⟩ := h; rfl
  obtain ⟨a, ns, rfl, ha, hs, h63, q1, q2⟩ := h
  refine ⟨_, (pss_cons (ps_if (pt_cmpR op_gt (pe_callB call_len_seq (by rfl) zlen PySem.boot_len (pa_cons (pv 0) pa_nil)) (pe_glob (v := .int 6) (by rfl) gMOST_SIDES ⟨_, rfl⟩) (nomark _)) (pss_one (ps_raise PySem.F.excBase_ValueError rfl (by rfl) nTooLarge xTooLarge raises1 (pa_cons pe_str pa_nil))) pss_nil) (pss_cons (ps_if (pt_cmpR op_gt (pe_cal cbreadth hr (by rfl) pass0 (pa_cons (pv 0) pa_nil)) (pe_glob (v := .int 512) (by rfl) gMOST_BREADTH ⟨_, rfl⟩) (nomark _)) (pss_one (ps_raise PySem.F.excBase_ValueError rfl (by rfl) nTooLarge xTooLarge raises1 (pa_cons pe_str pa_nil))) pss_nil) (pss_one (ps_ret (pv 0))))), ?_⟩
  wp_walk using rRepT, spbreadth
  refine ⟨_, .inr (.of ha), ?_⟩
  rw [len_map]
  by_cases h6 : 6 < ns.length
  · rw [if_pos (by omega)]
    exact ⟨small (by decide), q1 (.inl h6) _ (Same.refl _)⟩
  rw [if_neg (by omega)]
  refine ⟨ns, ha, hs, h63, fun H1 s1 => ?_⟩
  by_cases h5 : 512 < prodI (ns.map one1)
  · rw [if_pos h5]
    exact ⟨small (by decide), q1 (.inr h5) _ s1⟩
  rw [if_neg h5]
  exact q2 (fun z => z.elim h6 h5) _ s1
end
abbrev sstridesof : Stmt := top 16
def spstridesof : Sp := fun vs H Q _ => ∃ (a : Addr) (ns : List Int), vs = [.ref a] ∧ H a = some (.tup (ns.map V.int)) ∧ sdOk ns ∧ ns.length ≤ 63 ∧ ∀ H' p, Same H H' → H' p = some (.tup ((stL ns ns.length).reverse.map V.int)) → Q (.ref p) H'
section
variable {P : Program} {w : World} {K : PySem.W.Frag} {mg : Str → Option Value} {base : Heap} {f : Addr} {fd : FuncData}
theorem scstridesof : FnScope ["sides", "strides", "stride", "side"] ["sides"] (defScope sstridesof) := ⟨rfl, rfl, rfl, by decide +kernel, rfl, by decide +kernel, by decide +kernel⟩
theorem okstridesof (F : Fun K "strides_of" "strides_of" sstridesof f fd) (ztuple : mg "tuple" = none) (zreversed : mg "reversed" = none) : FnOk P w K mg base CX0 (1) f fd ["sides"] (spstridesof) := by
  have sc := scstridesof
  refine F.ok sc (fun vs H Q E h => ?_) (fun cdv A outer s H vs Q E hr h => ?_)
  · obtain ⟨a, ns, rfl, _⟩ := h; rfl
  obtain ⟨a, ns, rfl, ha, hs, h63, q⟩ := h
  refine ⟨_, (pss_cons (ps_set (i := 1) sc.nd rfl (by first | exact Or.inl rfl | exact Or.inr rfl) (pe_lst pa_nil)) (pss_cons (ps_set (i := 2) sc.nd rfl (by first | exact Or.inl rfl | exact Or.inr rfl) pe_int) (pss_cons (ps_for PassesOwn.never rfl (pi_revT (by rfl) zreversed (pv 0)) (pg_name (i := 3) sc.nd rfl (Or.inl rfl)) (pss_cons (ps_expr (pe_app (pv 1) (pv 2))) (pss_one (ps_set (i := 2) sc.nd rfl (by first | exact Or.inl rfl | exact Or.inr rfl) (pe_op op_mul (pv 2) (pv 3)))))) (pss_one (ps_ret (pe_tupRev rfl (by rfl) (by rfl) ztuple zreversed (pv 1))))))), ?_⟩
  wp_walk using rRepT
  refine ⟨small (by decide), fun p hp => ?_⟩
  refine LoopV.mk (xs := ns.map V.int) (.of (same_new hp _ _ _ ha)) (fun i σ H' => Same H H' ∧ H' p = some (.lst ((stL ns i).map V.int)) ∧ ∃ y, σ = [some (.ref a), some (.ref p), some (.int (stP ns i)), y]) ⟨same_new hp _, upd_same, _, rfl⟩ (fun i σ H' _ h => .of (h.1 _ _ ha)) (fun i x σ H' hi e h => ?_) (fun σ H' h => ?_)
  · obtain ⟨h1, h2, y, rfl⟩ := h
    obtain ⟨m, rfl, hm, m0, m1⟩ := sd_at hs e
    rw [len_map] at hi hm
    have sm : ((stL ns i).map V.int).length < sizeLine := by
      rw [List.length_map, stL, List.length_map, List.length_range]; exact small1000 (by omega)
    have s2 : Same H (upd H' p (.lst (((stL ns i).map V.int) ++ [V.int (stP ns i)]))) := fun b o e => by
      have nb : b ≠ p := fun z => by rw [z, hp] at e; cases e
      rw [upd_ne nb]; exact h1 b o e
    wp_walk using rRepT
    rw [stP_succ hi hm, stL_succ, List.map_append]
    refine ⟨⟨_, h2⟩, _, h2, sm, .inr ⟨by omega, by omega⟩, s2, rfl, ?_⟩
    exact ⟨rfl, _, rfl⟩
  · obtain ⟨h1, h2, y, rfl⟩ := h
    rw [len_map] at h2
    wp_walk using rRepT
    refine ⟨_, .of h2, fun p2 hp2 => ?_⟩
    rw [← List.map_reverse]
    exact q _ _ (h1.trans (same_new hp2 _)) upd_same
end
abbrev splaceof : Stmt := top 17
section
variable {P : Program} {w : World} {K : PySem.W.Frag} {mg : Str → Option Value} {base : Heap} {f : Addr} {fd : FuncData}
theorem scplaceof : FnScope ["sides", "at", "side", "coordinate"] ["sides", "at"] (defScope splaceof) := ⟨rfl, rfl, rfl, by decide +kernel, rfl, by decide +kernel, by decide +kernel⟩
theorem okplaceof (F : Fun K "place_of" "place_of" splaceof f fd) {CNoPlace : Addr} (nNoPlace : PySem.W.nsIn K mainGlobals "NoPlace" = some (some (.ref CNoPlace))) (cstridesof : Callee P w K mg base CX0 (1) "strides_of" ["sides"] spstridesof) (zlen : mg "len" = none) (zzip : mg "zip" = none) (zsum : mg "sum" = none) (xNoPlace : PySem.W.excIn K CNoPlace [.type "ValueError", .type "Exception", .type "BaseException", .type "object"] "ValueError.__new__" = true) : FnOk P w K mg base (CX1 P w) (2) f fd ["sides", "at"] ((spplaceof CNoPlace)) := by
  have sc := scplaceof
  refine F.okX sc (fun vs H Q E h => ?_) (fun cdv A outer s H vs Q E hr h => ?_)
  · obtain ⟨a, b, ns, ms, rfl, _⟩ := h; rfl
  obtain ⟨a, b, ns, ms, rfl, ha, hb, hs, h63, h70, q1, q2⟩ := h
  refine ⟨_, (pss_cons (ps_if (pt_cmpR op_ne (pe_callB call_len_seq (by rfl) zlen PySem.boot_len (pa_cons (pv 1) pa_nil)) (pe_callB call_len_seq (by rfl) zlen PySem.boot_len (pa_cons (pv 0) pa_nil)) (nomark _)) (pss_one (ps_raise PySem.F.excBase_ValueError rfl (by rfl) nNoPlace xNoPlace raises1 (pa_cons pe_str pa_nil))) pss_nil) (pss_cons (ps_for PassesOwn.leaving rfl (pi_zip (by rfl) zzip (pa_cons (pv 0) (pa_cons (pv 1) pa_nil))) (pg_tupH (n := 2) (pg_tup rfl (pgs_cons (pg_name (i := 2) sc.nd rfl (Or.inl rfl)) (pgs_cons (pg_name (i := 3) sc.nd rfl (Or.inl rfl)) pgs_nil)))) (pss_one (ps_if (pw_or (pt_cmpR op_lt (pv 3) pe_int (nomark _)) (pw_or1 (pt_cmpR op_ge (pv 3) (pv 2) (nomark _)))).pt (pss_one (ps_raise PySem.F.excBase_ValueError rfl (by rfl) nNoPlace xNoPlace raises1 (pa_cons pe_str pa_nil))) pss_nil))) (pss_one (ps_ret (pe_callB (call_sumL rfl) (by rfl) zsum boot_sum (pa_cons (pe_comp0 (own := ["coordinate", "stride"]) rfl (pi_zip (by rfl) zzip (pa_cons (pv 1) (pa_cons (pe_cal cstridesof hr (by rfl) pass0 (pa_cons (pv 0) pa_nil)) pa_nil))) (by decide) (by decide) rfl (by decide) (fun _ _ _ _ => (pg_tupH (n := 2) (pg_tup rfl (pgs_cons (pg_name (i := 0) (show (["coordinate", "stride"] : List Str).Nodup by decide +kernel) rfl (Or.inl rfl)) (pgs_cons (pg_name (i := 1) (show (["coordinate", "stride"] : List Str).Nodup by decide +kernel) rfl (Or.inl rfl)) pgs_nil))))) (fun _ _ _ _ => (pe_op op_mul (pv 0) (pv 1)))) pa_nil)))))), ?_⟩
  wp_walk using rRepT
  refine ⟨_, .inr (.of hb), _, .inr (.of ha), ?_⟩
  rw [len_map, len_map]
  by_cases hl : ms.length = ns.length
  · rw [if_neg (by omega)]
    refine LoopZ.mk (xs := ns.map V.int) (ys := ms.map V.int) ns.length (by rw [len_map, len_map, hl, Nat.min_self]) (.of ha) (.of hb) (fun i σ H' => Same H H' ∧ (∀ (j : Nat) m n, j < i → ms[j]? = some m → ns[j]? = some n → 0 ≤ m ∧ m < n) ∧ ∃ y2 y3, σ = [some (.ref a), some (.ref b), y2, y3]) ⟨Same.refl _, (fun j m n hj => absurd hj (Nat.not_lt_zero _)), _, _, rfl⟩ (fun i σ H' _ h => ⟨.of (h.1 _ _ ha), .of (h.1 _ _ hb)⟩) (fun i x y σ H' T hi ex ey h hT => ?_) (fun σ H' h => ?_)
    · obtain ⟨h1, h2, y2, y3, rfl⟩ := h
      obtain ⟨n, rfl, hn, n0, n1⟩ := sd_at hs ex
      rw [List.getElem?_map] at ey
      obtain ⟨m, hm, rfl⟩ : ∃ m, ms[i]? = some m ∧ y = .int m := by
        cases q : ms[i]? with
        | none => rw [q] at ey; cases ey
        | some m => rw [q] at ey; exact ⟨m, rfl, (Option.some.inj ey).symm⟩
      wp_walk using rRepT
      have s2 : Same H (upd H' T (.tup [V.int n, V.int m])) := h1.trans (same_new hT _)
      by_cases c1 : m < 0
      · rw [if_pos c1]; exact ⟨small (by decide), q1 (fun g => by have := g.2 i m n hm hn; omega) _ s2⟩
      rw [if_neg c1]
      by_cases c2 : n ≤ m
      · rw [if_pos c2]; exact ⟨small (by decide), q1 (fun g => by have := g.2 i m n hm hn; omega) _ s2⟩
      rw [if_neg c2]
      refine ⟨s2, fun j m' n' hj e1 e2 => ?_, _, rfl⟩
      by_cases hji : j = i
      · subst hji; rw [hm] at e1; rw [hn] at e2; cases e1; cases e2; omega
      · exact h2 j m' n' (by omega) e1 e2
    · obtain ⟨h1, h2, y2, y3, rfl⟩ := h
      have g : good ns ms := ⟨hl, fun i m n e1 e2 => h2 i m n (List.getElem?_eq_some_iff.mp e2).1 e1 e2⟩
      wp_walk using rRepT, spstridesof
      refine ⟨ns, h1 _ _ ha, hs, h63, fun H1 p s1 hp => ?_⟩
      have hb1 := s1 _ _ (h1 _ _ hb)
      have lz : (List.zipWith (fun a b => a * b) ms (stL ns ns.length).reverse).length = ns.length := by rw [List.length_zipWith, List.length_reverse, stL, List.length_map, List.length_range, hl, Nat.min_self]
      refine CompZ.mk (xs := ms.map V.int) (ys := (stL ns ns.length).reverse.map V.int) ns.length (by rw [len_map, st_len, hl, Nat.min_self]) (.of hb1) (.of hp) (fun i zs σ H' => Same H1 H' ∧ zs = ((List.zipWith (fun a b => a * b) ms (stL ns ns.length).reverse).take i).map V.int ∧ ∃ y z, σ = [y, z]) ⟨Same.refl _, rfl, _, _, rfl⟩ (fun i zs σ H' _ h => ⟨.of (h.1 _ _ hb1), .of (h.1 _ _ hp)⟩) (fun i x y zs σ H' T hi ex ey h hT => ?_) (fun zs σ H' h q hq => ?_) (fun i zs σ H' h => ?_)
      · obtain ⟨h3, rfl, y4, y5, rfl⟩ := h
        obtain ⟨m, rfl, hm⟩ := int_at ex
        obtain ⟨t, rfl, ht⟩ := int_at ey
        obtain ⟨n, hn⟩ : ∃ n, ns[i]? = some n := ⟨ns[i], List.getElem?_eq_getElem hi⟩
        have mb := g.2 i m n hm hn
        have nb := hs n (List.mem_of_getElem? hn)
        have ez : (List.zipWith (fun a b => a * b) ms (stL ns ns.length).reverse)[i]? = some (m * t) := by rw [List.getElem?_zipWith, hm, ht]
        have et : ((List.zipWith (fun a b => a * b) ms (stL ns ns.length).reverse).take (i + 1)).map V.int = ((List.zipWith (fun a b => a * b) ms (stL ns ns.length).reverse).take i).map V.int ++ [V.int (m * t)] := by
          rw [List.take_add_one, ez, List.map_append]; rfl
        have sm : (((List.zipWith (fun a b => a * b) ms (stL ns ns.length).reverse).take i).map V.int).length < sizeLine := by rw [List.length_map, List.length_take]; exact small1000 (by omega)
        refine ⟨sm, ?_⟩
        wp_walk using rRepT, et
        exact ⟨.inl ⟨by omega, by omega⟩, h3.trans (same_new hT _), _, rfl⟩
      · obtain ⟨h3, rfl, y4, y5, rfl⟩ := h
        rw [List.take_of_length_le (by omega)]
        exact ⟨q, rfl, _, .of upd_same, q2 g _ ((h1.trans s1).trans (h3.trans (same_new hq _)))⟩
      · obtain ⟨h3, rfl, _⟩ := h
        rw [List.length_map, List.length_take]; exact small1000 (by omega)
  · rw [if_pos (by omega)]
    exact ⟨small (by decide), q1 (fun g => hl g.1) _ (Same.refl _)⟩
end
abbrev satof : Stmt := top 18
section
variable {P : Program} {w : World} {K : PySem.W.Frag} {mg : Str → Option Value} {base : Heap} {f : Addr} {fd : FuncData}
theorem scatof : FnScope ["sides", "place", "at", "left", "side"] ["sides", "place"] (defScope satof) := ⟨rfl, rfl, rfl, by decide +kernel, rfl, by decide +kernel, by decide +kernel⟩
theorem okatof (F : Fun K "at_of" "at_of" satof f fd) {CNoPlace : Addr} (nNoPlace : PySem.W.nsIn K mainGlobals "NoPlace" = some (some (.ref CNoPlace))) (camount : Callee P w K mg base CX0 (1) "amount" ["sides"] spamount) (zreversed : mg "reversed" = none) (ztuple : mg "tuple" = none) (xNoPlace : PySem.W.excIn K CNoPlace [.type "ValueError", .type "Exception", .type "BaseException", .type "object"] "ValueError.__new__" = true) : FnOk P w K mg base (CX1 P w) (2) f fd ["sides", "place"] ((spatof CNoPlace)) := by
  have sc := scatof
  refine F.okX sc (fun vs H Q E h => ?_) (fun cdv A outer s H vs Q E hr h => ?_)
  · obtain ⟨a, ns, pl, rfl, _⟩ := h; rfl
  obtain ⟨a, ns, pl, rfl, ha, hs, h63, q1, q2⟩ := h
  refine ⟨_, (pss_cons (ps_if (pw_or (pt_cmpR op_lt (pv 1) pe_int (nomark _)) (pw_or1 (pt_cmpR op_ge (pv 1) (pe_cal camount hr (by rfl) pass0 (pa_cons (pv 0) pa_nil)) (nomark _)))).pt (pss_one (ps_raise PySem.F.excBase_ValueError rfl (by rfl) nNoPlace xNoPlace raises1 (pa_cons pe_str pa_nil))) pss_nil) (pss_cons (ps_set (i := 2) sc.nd rfl (by first | exact Or.inl rfl | exact Or.inr rfl) (pe_lst pa_nil)) (pss_cons (ps_set (i := 3) sc.nd rfl (by first | exact Or.inl rfl | exact Or.inr rfl) (pv 1)) (pss_cons (ps_for PassesOwn.leaving rfl (pi_revT (by rfl) zreversed (pv 0)) (pg_name (i := 4) sc.nd rfl (Or.inl rfl)) (pss_cons (ps_expr (pe_app (pv 2) (pe_op op_mod (pv 3) (pv 4)))) (pss_one (ps_set (i := 3) sc.nd rfl (by first | exact Or.inl rfl | exact Or.inr rfl) (pe_op op_fdivW (pv 3) (pv 4)))))) (pss_one (ps_ret (pe_tupRev rfl (by rfl) (by rfl) ztuple zreversed (pv 2)))))))), ?_⟩
  wp_walk using rRepT, spamount
  by_cases c1 : pl < 0
  · rw [if_pos c1]; exact ⟨small (by decide), q1 (.inl c1) _ (Same.refl _)⟩
  rw [if_neg c1]
  refine ⟨ns, .inr ha, hs, ?_⟩
  by_cases c2 : prodI ns ≤ pl
  · rw [if_pos c2]; exact ⟨small (by decide), q1 (.inr c2) _ (Same.refl _)⟩
  rw [if_neg c2]
  have nz := prod_nz (ns := ns) (by omega)
  refine ⟨small (by decide), fun p hp => ?_⟩
  refine LoopV.mk (xs := ns.map V.int) (.of (same_new hp _ _ _ ha)) (fun i σ H' => Same H H' ∧ H' p = some (.lst ((dgL ns pl i).map V.int)) ∧ ∃ y, σ = [some (.ref a), some (.int pl), some (.ref p), some (.int (lfI ns pl i)), y]) ⟨same_new hp _, upd_same, _, rfl⟩ (fun i σ H' _ h => .of (h.1 _ _ ha)) (fun i x σ H' hi e h => ?_) (fun σ H' h => ?_)
  · obtain ⟨h1, h2, y, rfl⟩ := h
    obtain ⟨m, rfl, hm, m0, m1⟩ := sd_at hs e
    rw [len_map] at hi hm
    have mz := nz m (List.mem_of_getElem? hm)
    have rg := rev_get hi hm
    have sm : ((dgL ns pl i).map V.int).length < sizeLine := by
      rw [List.length_map, dgL, List.length_map, List.length_range]; exact small1000 (by omega)
    have d1 : dgI ns pl i = lfI ns pl i % m := by unfold dgI; rw [rg]
    have l1 : lfI ns pl (i + 1) = lfI ns pl i / m := by show lfI ns pl i / _ = _; rw [rg]
    have fd : (lfI ns pl i).fdiv m = lfI ns pl i / m := Int.fdiv_eq_ediv_of_nonneg _ m0
    have s2 : Same H (upd H' p (.lst (((dgL ns pl i).map V.int) ++ [V.int (lfI ns pl i % m)]))) := fun b o e => by
      have nb : b ≠ p := fun z => by rw [z, hp] at e; cases e
      rw [upd_ne nb]; exact h1 b o e
    wp_walk using rRepT
    rw [l1, dgL_succ, List.map_append, d1, fd]
    exact ⟨⟨_, h2⟩, by omega, _, h2, sm, mz, by omega, by omega, s2, rfl, rfl, _, rfl⟩
  · obtain ⟨h1, h2, y, rfl⟩ := h
    rw [len_map] at h2
    wp_walk using rRepT
    refine ⟨_, .of h2, fun p2 hp2 => ?_⟩
    rw [← List.map_reverse]
    exact q2 (by omega) (by omega) _ _ (h1.trans (same_new hp2 _)) upd_same
end
abbrev sallat : Stmt := top 19
def spallat : Sp := fun vs H Q _ => ∃ (a : Addr) (ns : List Int), vs = [.ref a] ∧ H a = some (.tup (ns.map V.int)) ∧ sdOk ns ∧ ns.length ≤ 63 ∧ prodI ns ≤ 512 ∧ ∀ H' l ps, Same H H' → H l = none → H' l = some (.lst (ps.map V.ref)) → TpsAt H' ps (allD ns) → Q (.ref l) H'
section
variable {P : Program} {w : World} {K : PySem.W.Frag} {mg : Str → Option Value} {base : Heap} {f : Addr} {fd : FuncData}
theorem scallat : FnScope ["sides"] ["sides"] (defScope sallat) := ⟨rfl, rfl, rfl, by decide +kernel, rfl, by decide +kernel, by decide +kernel⟩
theorem okallat (F : Fun K "all_at" "all_at" sallat f fd) (catof : Callee P w K mg base (CX1 P w) (2) "at_of" ["sides", "place"] (spatof CNoPlace)) (camount : Callee P w K mg base CX0 (2) "amount" ["sides"] spamount) (zrange : mg "range" = none) : FnOk P w K mg base CX0 (3) f fd ["sides"] (spallat) := by
  have sc := scallat
  refine F.ok sc (fun vs H Q E h => ?_) (fun cdv A outer s H vs Q E hr h => ?_)
  · obtain ⟨a, ns, rfl, _⟩ := h; rfl
  obtain ⟨a, ns, rfl, ha, hs, h63, h512, q⟩ := h
  refine ⟨_, (pss_one (ps_ret (pe_comp (own := ["place"]) (fv := ["sides"]) (js := [0]) rfl (pi_range1 (by rfl) zrange (pa_cons (pe_cal camount hr (by rfl) pass0 (pa_cons (pv 0) pa_nil)) pa_nil)) rfl (by decide) rfl (by decide) (by first | exact fun _ _ h => h | exact cl_sub1 rfl | exact cl_sub2 rfl rfl | exact cl_sub3 rfl rfl rfl) (has_of (by rfl)) rfl (cap1 (by first | exact ⟨rfl, .inl rfl, .inl rfl⟩ | exact ⟨rfl, .inl rfl, .inr rfl⟩)) (fun _ _ _ _ => (pg_name (i := 0) (show (["place", "sides"] : List Str).Nodup by decide +kernel) rfl (Or.inl rfl))) (fun _ _ _ _ => (pe_cal catof hr (by rfl) passNo (pa_cons (pv 1) (pa_cons (pv 0) pa_nil))))))), ?_⟩
  have pn := prod_nn fun n hn => (hs n hn).1
  wp_walk using rRepT, spamount
  refine ⟨ns, .inr ha, hs, by omega, by omega, ?_⟩
  refine CompR.mk (fun j ys σ G => ∃ ps : List Addr, Same H G ∧ ys = ps.map V.ref ∧ TpsAt G ps ((allD ns).take j) ∧ ∃ y, σ = [y, some (.ref a)]) ⟨[], Same.refl _, rfl, ⟨rfl, fun i t e => by simp at e⟩, _, rfl⟩ (fun j ys σ G hj h => ?_) (fun ys σ G h p hp => ?_)
  · obtain ⟨ps, sG, rfl, tp, y, rfl⟩ := h
    have pl := tp.1
    rw [List.length_take, all_len] at pl
    refine ⟨by rw [List.length_map]; exact small1000 (by omega), ?_⟩
    wp_walk using rRepT, spatof
    refine ⟨ns, sG _ _ ha, hs, h63, (fun z => by omega), fun z1 z2 H1 p s1 hp => ⟨sG.trans s1, ps ++ [p], by rw [List.map_append]; rfl, ?_, _, rfl⟩⟩
    rw [List.take_add_one, all_get (by omega)]
    refine (tp.mono fun b xs e => s1 _ _ e).snoc ?_
    rw [hp, show (0 : Int) + (j : Int) = (j : Int) by omega]; rfl
  · obtain ⟨ps, sG, rfl, tp, y, rfl⟩ := h
    rw [List.take_of_length_le (by rw [all_len]; omega)] at tp
    exact q _ p ps (sG.trans (same_new hp _)) (same_none sG hp) upd_same (tp.mono fun b xs e => same_new hp _ _ _ e)
end
abbrev swrapped : Stmt := top 9
def spwrapped : Sp := fun vs H Q _ => ∃ n : Int, vs = [.int n] ∧ Q (.int (wrapI n)) H
section
variable {P : Program} {w : World} {K : PySem.W.Frag} {mg : Str → Option Value} {base : Heap} {f : Addr} {fd : FuncData}
theorem scwrapped : FnScope ["n"] ["n"] (defScope swrapped) := ⟨rfl, rfl, rfl, by decide +kernel, rfl, by decide +kernel, by decide +kernel⟩
theorem okwrapped (F : Fun K "wrapped" "wrapped" swrapped f fd) {tLOW : Tok} (gLOW : mg "LOW" = some (.int (-9223372036854775808) tLOW)) : FnOk P w K mg base CX0 (1) f fd ["n"] (spwrapped) := by
  have sc := scwrapped
  refine F.ok sc (fun vs H Q E h => ?_) (fun cdv A outer s H vs Q E hr h => ?_)
  · obtain ⟨n, rfl, _⟩ := h; rfl
  obtain ⟨n, rfl, q⟩ := h
  refine ⟨_, (pss_one (ps_ret (pe_op op_add (pe_op op_mod (pe_op op_sub (pv 0) (pe_glob (v := .int (-9223372036854775808)) (by rfl) gLOW ⟨_, rfl⟩)) (pe_op op_pow pe_int pe_int)) (pe_glob (v := .int (-9223372036854775808)) (by rfl) gLOW ⟨_, rfl⟩)))), ?_⟩
  wp_walk using rRepT
  have e : (n - -9223372036854775808) % 18446744073709551616 + -9223372036854775808 = wrapI n := by unfold wrapI; omega
  rw [e]; exact q
end
abbrev stableof : Stmt := top 21
section
variable {P : Program} {w : World} {K : PySem.W.Frag} {mg : Str → Option Value} {base : Heap} {f : Addr} {fd : FuncData}
theorem sctableof : FnScope ["sides", "cells"] ["sides", "cells"] (defScope stableof) := ⟨rfl, rfl, rfl, by decide +kernel, rfl, by decide +kernel, by decide +kernel⟩
theorem oktableof (F : Fun K "table_of" "table_of" stableof f fd) {CTooLarge : Addr} (nTooLarge : PySem.W.nsIn K mainGlobals "TooLarge" = some (some (.ref CTooLarge))) {CUnlike : Addr} (nUnlike : PySem.W.nsIn K mainGlobals "Unlike" = some (some (.ref CUnlike))) (callowed : Callee P w K mg base (CX1 P w) (3) "allowed" ["sides"] (spallowed CTooLarge)) (camount : Callee P w K mg base CX0 (3) "amount" ["sides"] spamount) (cwrapped : Callee P w K mg base CX0 (3) "wrapped" ["n"] spwrapped) (zlen : mg "len" = none) (ztuple : mg "tuple" = none) (xUnlike : PySem.W.excIn K CUnlike [.type "ValueError", .type "Exception", .type "BaseException", .type "object"] "ValueError.__new__" = true) : FnOk P w K mg base (CX1 P w) (4) f fd ["sides", "cells"] ((sptableof CTooLarge CUnlike)) := by
  have sc := sctableof
  refine F.okX sc (fun vs H Q E h => ?_) (fun cdv A outer s H vs Q E hr h => ?_)
  · obtain ⟨a, c, ns, cs, rfl, _⟩ := h; rfl
  obtain ⟨a, c0, ns, cs, rfl, ha, hc, hs, h63, h900, q1, q2, q3⟩ := h
  refine ⟨_, (pss_cons (ps_expr (pe_cal callowed hr (by rfl) passes1 (pa_cons (pv 0) pa_nil))) (pss_cons (ps_if (pt_cmpR op_ne (pe_callB call_len_seq (by rfl) zlen PySem.boot_len (pa_cons (pv 1) pa_nil)) (pe_cal camount hr (by rfl) pass0 (pa_cons (pv 0) pa_nil)) (nomark _)) (pss_one (ps_raise PySem.F.excBase_ValueError rfl (by rfl) nUnlike xUnlike raises1 (pa_cons pe_str pa_nil))) pss_nil) (pss_one (ps_ret (pe_tup (pa_cons (pv 0) (pa_cons (pe_callTy call_tuple_of (by rfl) ztuple boot_tuple (pa_cons (pe_comp0 (own := ["cell"]) rfl (pi_seq (pv 1)) (by decide) (by decide) rfl (by decide) (fun _ _ _ _ => (pg_name (i := 0) (show (["cell"] : List Str).Nodup by decide +kernel) rfl (Or.inl rfl))) (fun _ _ _ _ => (pe_cal cwrapped hr (by rfl) pass0 (pa_cons (pv 0) pa_nil)))) pa_nil)) pa_nil))))))), ?_⟩
  wp_walk using rRepT, spallowed, spamount, spwrapped
  refine ⟨ns, ha, hs, h63, q1, fun b H1 s1 => ?_⟩
  refine ⟨_, (hc.same s1).imp .of .of, ns, .inr (s1 _ _ ha), hs, ?_⟩
  rw [len_map]
  by_cases e : (cs.length : Int) = prodI ns
  rotate_left
  · rw [if_pos e]; exact ⟨small (by decide), q2 b e _ s1⟩
  rw [if_neg (fun z => z e)]
  have hc1 := hc.same s1
  have ha1 := s1 _ _ ha
  have fin : ∀ (G : Hp) (p : Addr), Same H1 G → G p = some (.lst ((cs.map wrapI).map V.int)) → ∃ p', V.ref p = V.ref p' ∧ ∃ x, (SqL K G p' x ∧ ∀ (l : Addr), G l = none → 2 ≤ sizeLine ∧ ∀ (p : Addr), upd G l (HO.tup x) p = none → Q (V.ref p) (upd (upd G l (HO.tup x)) p (HO.tup [V.ref a, V.ref l]))) ∨ SqT K G p' x ∧ 2 ≤ sizeLine ∧ ∀ (p_1 : Addr), G p_1 = none → Q (V.ref p_1) (upd G p_1 (HO.tup [V.ref a, V.ref p'])) := fun G p sG hp => ⟨p, rfl, _, .inl ⟨.of hp, fun l hl => ⟨small (by decide), fun p2 hp2 => q3 b e _ p2 (s1.trans (sG.trans ((same_new hl _).trans (same_new hp2 _)))) ⟨a, l, upd_same, same_new hp2 _ _ _ (same_new hl _ _ _ (sG _ _ ha1)), same_new hp2 _ _ _ upd_same⟩⟩⟩⟩
  rcases hc1 with hc1 | hc1
  · refine .inl (CompL.ints (fn := wrapI) (.of hc1) (by omega) (fun n _ G _ Q' hQ => ?_) (fun G sG p hp => fin _ p (sG.trans (same_new hp _)) upd_same))
    wp_walk using rRepT, spwrapped
    exact hQ _ (Same.refl _)
  · refine .inr (CompT.mk (xs := cs.map V.int) (.of hc1) (fun i ys σ G => G = H1 ∧ ys = ((cs.take i).map wrapI).map V.int ∧ ∃ y, σ = [y]) ⟨rfl, rfl, _, rfl⟩ (fun i ys σ G _ h => by rw [h.1]; exact .of hc1) (fun i x ys σ G ex h => ?_) (fun ys σ G h p hp => ?_))
    · obtain ⟨rfl, rfl, y, rfl⟩ := h
      obtain ⟨m, rfl, hm⟩ := int_at ex
      have e1 : ((cs.take (i + 1)).map wrapI).map V.int = ((cs.take i).map wrapI).map V.int ++ [V.int (wrapI m)] := by
        rw [List.take_add_one, hm, List.map_append, List.map_append]; rfl
      wp_walk using rRepT, spwrapped, e1
      refine ⟨?_, ?_⟩
      · rw [List.length_map, List.length_map, List.length_take]; exact small1000 (by omega)
      exact ⟨_, rfl⟩
    · obtain ⟨rfl, rfl, y, rfl⟩ := h
      rw [len_map, List.take_length]
      exact fin _ p (same_new hp _) upd_same
end
abbrev salone : Stmt := top 22
def spalone : Sp := fun vs H Q _ => ∃ n : Int, vs = [.int n] ∧ ∀ H' p, Same H H' → TbAt H' p [] [wrapI n] → Q (.ref p) H'
section
variable {P : Program} {w : World} {K : PySem.W.Frag} {mg : Str → Option Value} {base : Heap} {f : Addr} {fd : FuncData}
theorem scalone : FnScope ["n"] ["n"] (defScope salone) := ⟨rfl, rfl, rfl, by decide +kernel, rfl, by decide +kernel, by decide +kernel⟩
theorem okalone (F : Fun K "alone" "alone" salone f fd) {CTooLarge : Addr} (nTooLarge : PySem.W.nsIn K mainGlobals "TooLarge" = some (some (.ref CTooLarge))) {CUnlike : Addr} (nUnlike : PySem.W.nsIn K mainGlobals "Unlike" = some (some (.ref CUnlike))) (ctableof : Callee P w K mg base (CX1 P w) (4) "table_of" ["sides", "cells"] (sptableof CTooLarge CUnlike)) : FnOk P w K mg base CX0 (5) f fd ["n"] (spalone) := by
  have sc := scalone
  refine F.ok sc (fun vs H Q E h => ?_) (fun cdv A outer s H vs Q E hr h => ?_)
  · obtain ⟨n, rfl, _⟩ := h; rfl
  obtain ⟨n, rfl, q⟩ := h
  refine ⟨_, (pss_one (ps_ret (pe_cal ctableof hr (by rfl) passNo (pa_cons (pe_tup pa_nil) (pa_cons (pe_tup (pa_cons (pv 0) pa_nil)) pa_nil))))), ?_⟩
  wp_walk using rRepT, sptableof
  refine ⟨Nat.zero_le _, fun p hp => ⟨small (by decide), fun p1 hp1 => ⟨[], same_new hp1 _ _ _ upd_same, [n], .inr upd_same, sd_nil, by decide, by simp, fun z => absurd z big_nil, fun _ z => absurd rfl z, fun _ _ G p2 s t => q G p2 ((same_new hp _).trans ((same_new hp1 _).trans s)) t⟩⟩⟩
end
abbrev scellat : Stmt := top 23
section
variable {P : Program} {w : World} {K : PySem.W.Frag} {mg : Str → Option Value} {base : Heap} {f : Addr} {fd : FuncData}
theorem sccellat : FnScope ["tab", "at"] ["tab", "at"] (defScope scellat) := ⟨rfl, rfl, rfl, by decide +kernel, rfl, by decide +kernel, by decide +kernel⟩
theorem okcellat (F : Fun K "cell_at" "cell_at" scellat f fd) {CNoPlace : Addr} (nNoPlace : PySem.W.nsIn K mainGlobals "NoPlace" = some (some (.ref CNoPlace))) (cplaceof : Callee P w K mg base (CX1 P w) (2) "place_of" ["sides", "at"] (spplaceof CNoPlace)) : FnOk P w K mg base (CX1 P w) (3) f fd ["tab", "at"] ((spcellat CNoPlace)) := by
  have sc := sccellat
  refine F.okX sc (fun vs H Q E h => ?_) (fun cdv A outer s H vs Q E hr h => ?_)
  · obtain ⟨ta, b, ns, cs, ms, rfl, _⟩ := h; rfl
  obtain ⟨ta, b, ns, cs, ms, rfl, ⟨sa, ca, ht, ha, hc⟩, hb, hs, h63, h70, cl, q1, q2⟩ := h
  refine ⟨_, (pss_one (ps_ret (pe_ix ix_tupH (pe_ix ix_tupH (pv 0) pe_int (fun _ _ => rfl)) (pe_cal cplaceof hr (by rfl) passes1 (pa_cons (pe_ix ix_tupH (pv 0) pe_int (fun _ _ => rfl)) (pa_cons (pv 1) pa_nil))) (fun _ _ => rfl)))), ?_⟩
  wp_walk using rRepT, spplaceof
  refine ⟨_, ht, _, atI_nat (j := 1) rfl, _, ht, _, atI_nat (j := 0) rfl, sa, rfl, ns, ha, ms, hb, hs, h63, h70, q1, fun g H1 s1 => ?_⟩
  have pi := plH_in g
  have ex : cs[(plH ns ms).toNat]? = some (cs.getD (plH ns ms).toNat 0) := by
    rw [List.getD_eq_getElem?_getD, List.getElem?_eq_getElem (by omega)]; rfl
  exact ⟨ca, rfl, _, s1 _ _ hc, _, at_int pi.1 ex, q2 g _ s1⟩
end
abbrev slawat : Stmt := top 26
def splawat : PySem.W.Frag → Sp := fun K => fun vs H Q _ => ∃ (a : Addr) (ns : List Int) (k : Nat), vs = [.ref a, .int k] ∧ SqL K H a (ns.map V.int) ∧ Q (.int (cellI ns k)) H
section
variable {P : Program} {w : World} {K : PySem.W.Frag} {mg : Str → Option Value} {base : Heap} {f : Addr} {fd : FuncData}
theorem sclawat : FnScope ["script", "k"] ["script", "k"] (defScope slawat) := ⟨rfl, rfl, rfl, by decide +kernel, rfl, by decide +kernel, by decide +kernel⟩
theorem oklawat (F : Fun K "_law_at" "_law_at" slawat f fd) (zlen : mg "len" = none) : FnOk P w K mg base CX0 (1) f fd ["script", "k"] ((splawat K)) := by
  have sc := sclawat
  refine F.ok sc (fun vs H Q E h => ?_) (fun cdv A outer s H vs Q E hr h => ?_)
  · obtain ⟨a, ns, k, rfl, _⟩ := h; rfl
  obtain ⟨a, ns, k, rfl, hS, q⟩ := h
  refine ⟨_, (pss_cons (ps_if (pt_cmpR op_lt (pv 1) (pe_callB call_len_seq (by rfl) zlen PySem.boot_len (pa_cons (pv 0) pa_nil)) (nomark _)) (pss_one (ps_ret (pe_ix ix_list (pv 0) (pv 1) (fun _ _ => rfl)))) pss_nil) (pss_one (ps_ret pe_int))), ?_⟩
  wp_walk using rRepT
  refine ⟨_, .inl hS, ?_⟩
  rw [len_map]
  unfold cellI at q
  by_cases c : k < ns.length
  · rw [if_pos (by omega)]
    exact ⟨_, hS, _, atI_nat (j := k) (by rw [List.getElem?_map, List.getElem?_eq_getElem c]; rfl), by rw [List.getD_eq_getElem?_getD, List.getElem?_eq_getElem c] at q; exact q⟩
  · rw [if_neg (by omega)]
    rw [List.getD_eq_getElem?_getD, List.getElem?_eq_none (by omega)] at q
    exact q
end
abbrev slawheld : Stmt := top 27
def splawheld : Sp := fun vs H Q _ => ∃ n d : Int, vs = [.int n, .int d] ∧ n = wrapI d ∧ Q (.bl true) H
section
variable {P : Program} {w : World} {K : PySem.W.Frag} {mg : Str → Option Value} {base : Heap} {f : Addr} {fd : FuncData}
theorem sclawheld : FnScope ["found", "due"] ["found", "due"] (defScope slawheld) := ⟨rfl, rfl, rfl, by decide +kernel, rfl, by decide +kernel, by decide +kernel⟩
theorem oklawheld (F : Fun K "_law_held" "_law_held" slawheld f fd) (zisinstance : mg "isinstance" = none) (zint : mg "int" = none) (zbool : mg "bool" = none) : FnOk P w K mg base CX0 (1) f fd ["found", "due"] (splawheld) := by
  have sc := sclawheld
  refine F.ok sc (fun vs H Q E h => ?_) (fun cdv A outer s H vs Q E hr h => ?_)
  · obtain ⟨n, d, rfl, _⟩ := h; rfl
  obtain ⟨n, d, rfl, e, q⟩ := h
  refine ⟨_, (pss_cons (ps_if (pw_or (pt_not (pt_val (pe_callB call_isiS (by rfl) zisinstance boot_isinstance (pa_cons (pv 0) (pa_cons (pe_bltn (v := .ty "int") (by rfl) zint boot_int rfl) pa_nil))))) (pw_or (pt_val (pe_callB call_isiS (by rfl) zisinstance boot_isinstance (pa_cons (pv 0) (pa_cons (pe_bltn (v := .ty "bool") (by rfl) zbool boot_bool rfl) pa_nil)))) (pw_or (pt_cmpR op_lt (pv 0) (pe_un un_neg (pe_op op_pow pe_int pe_int)) (nomark _)) (pw_or1 (pt_cmpR op_ge (pv 0) (pe_op op_pow pe_int pe_int) (nomark _)))))).pt (pss_one (ps_ret pe_bl)) pss_nil) (pss_one (ps_ret (pe_cmpR op_eq (pe_op op_mod (pe_op op_sub (pv 0) (pv 1)) (pe_op op_pow pe_int pe_int)) pe_int (nomark _))))), ?_⟩
  wp_walk using rRepT
  subst e
  have w := wrap_in d
  rw [if_neg (by omega), if_neg (by omega), decide_eq_true (wrap_mod d)]
  exact q
end
abbrev slawnocell : Stmt := top 31
def splawnocell : Sp := fun vs H Q _ => ∃ (ta b : Addr) (ns cs ms : List Int), vs = [.ref ta, .ref b] ∧ TbAt H ta ns cs ∧ H b = some (.tup (ms.map V.int)) ∧ sdOk ns ∧ ns.length ≤ 63 ∧ ms.length ≤ 70 ∧ (cs.length : Int) = prodI ns ∧ ¬ good ns ms ∧ ∀ H', Same H H' → Q (.bl true) H'
section
variable {P : Program} {w : World} {K : PySem.W.Frag} {mg : Str → Option Value} {base : Heap} {f : Addr} {fd : FuncData}
theorem sclawnocell : FnScope ["tab", "at", "refused"] ["tab", "at"] (defScope slawnocell) := ⟨rfl, rfl, rfl, by decide +kernel, rfl, by decide +kernel, by decide +kernel⟩
theorem oklawnocell (F : Fun K "_law_no_cell" "_law_no_cell" slawnocell f fd) {CNoPlace : Addr} (nNoPlace : PySem.W.nsIn K mainGlobals "NoPlace" = some (some (.ref CNoPlace))) (ccellat : Callee P w K mg base (CX1 P w) (3) "cell_at" ["tab", "at"] (spcellat CNoPlace)) (e11 : PySem.W.exmOne K (.ref CNoPlace) (.ref CNoPlace) = some true) : FnOk P w K mg base CX0 (4) f fd ["tab", "at"] (splawnocell) := by
  have sc := sclawnocell
  refine F.ok sc (fun vs H Q E h => ?_) (fun cdv A outer s H vs Q E hr h => ?_)
  · obtain ⟨ta, b, ns, cs, ms, rfl, _⟩ := h; rfl
  obtain ⟨ta, b, ns, cs, ms, rfl, ht, hb, hs, h63, h70, cl, g, q⟩ := h
  refine ⟨_, (pss_cons (ps_set (i := 2) sc.nd rfl (by first | exact Or.inl rfl | exact Or.inr rfl) pe_bl) (pss_cons (ps_tryN ⟨rfl, rfl⟩ (fun xe pn EE hx => (pss_one (ps_expr (pe_calX ccellat hr (by rfl) hx (pa_cons (pv 0) (pa_cons (pv 1) pa_nil)))))) (.cons (by rfl) nNoPlace (fun ae pn => (pss_one (ps_set (i := 2) sc.nd rfl (by first | exact Or.inl rfl | exact Or.inr rfl) pe_bl))) .nil (by decide))) (pss_one (ps_ret (pv 2))))), ?_⟩
  wp_walk using rRepT, spcellat
  exact ⟨ns, cs, ht, ms, hb, hs, h63, h70, cl, fun _ G s => .inl ⟨e11, q _ s⟩, fun y => absurd y g⟩
end
abbrev snested : Stmt := top 24
def spnested : Nat → Sp := fun d => match d with | 0 => fun _ _ _ _ => False | d + 1 => fun vs H Q _ => ∃ (ta : Addr) (ns cs : List Int), vs = [.ref ta] ∧ TbAt H ta ns cs ∧ sdOk ns ∧ ns.length ≤ d ∧ d ≤ 7 ∧ (cs.length : Int) = prodI ns ∧ cs.length ≤ 900 ∧ (∀ n ∈ ns, n ≤ 899) ∧ ∀ H' v, Same H H' → Nest ns cs H H' v → Q v H'
section
variable {P : Program} {w : World} {K : PySem.W.Frag} {mg : Str → Option Value} {base : Heap} {f : Addr} {fd : FuncData}
theorem scnested : FnScope ["tab", "sides", "cells", "stride", "rows"] ["tab"] (defScope snested) := ⟨rfl, rfl, rfl, by decide +kernel, rfl, by decide +kernel, by decide +kernel⟩
theorem oknested (F : Fun K "nested" "nested" snested f fd) {d0 : Nat} (cstridesof : Callee P w K mg base CX0 (d0 + 1) "strides_of" ["sides"] spstridesof) (cnested : Callee P w K mg base CX0 (d0 + 1) "nested" ["tab"] (spnested d0)) (zlen : mg "len" = none) (zrange : mg "range" = none) : FnOk P w K mg base CX0 (d0 + 2) f fd ["tab"] (spnested (d0 + 1)) := by
  have sc := scnested
  refine F.ok sc (fun vs H Q E h => ?_) (fun cdv A outer s H vs Q E hr h => ?_)
  · obtain ⟨ta, ns, cs, rfl, _⟩ := h; rfl
  obtain ⟨ta, ns, cs, rfl, ⟨sa, ca, ht, ha, hc⟩, hs, hd, d7, cl, c9, b, q⟩ := h
  refine ⟨_, (pss_cons (ps_set (i := 1) sc.nd rfl (by first | exact Or.inl rfl | exact Or.inr rfl) (pe_ix ix_tupH (pv 0) pe_int (fun _ _ => rfl))) (pss_cons (ps_set (i := 2) sc.nd rfl (by first | exact Or.inl rfl | exact Or.inr rfl) (pe_ix ix_tupH (pv 0) pe_int (fun _ _ => rfl))) (pss_cons (ps_if (pt_cmpR op_eq (pe_callB call_len_seq (by rfl) zlen PySem.boot_len (pa_cons (pv 1) pa_nil)) pe_int (nomark _)) (pss_one (ps_ret (pe_ix ix_tupH (pv 2) pe_int (fun _ _ => rfl)))) pss_nil) (pss_cons (ps_set (i := 3) sc.nd rfl (by first | exact Or.inl rfl | exact Or.inr rfl) (pe_ix ix_tupH (pe_cal cstridesof hr (by rfl) pass0 (pa_cons (pv 1) pa_nil)) pe_int (fun _ _ => rfl))) (pss_cons (ps_setC (own := ["row"]) (fv := ["cells", "stride"]) (js := [2, 3]) sc.nd (i := 4) rfl (by first | exact Or.inl rfl | exact Or.inr rfl) (by first | exact Or.inl rfl | exact Or.inr rfl) rfl (pi_range1 (by rfl) zrange (pa_cons (pe_ix ix_tupH (pv 1) pe_int (fun _ _ => rfl)) pa_nil)) rfl (by decide) rfl (by decide) (by first | exact fun _ _ h => h | exact cl_sub1 rfl | exact cl_sub2 rfl rfl | exact cl_sub3 rfl rfl rfl) (has_of (by rfl)) rfl (cap2 (by first | exact ⟨rfl, .inl rfl, .inl rfl⟩ | exact ⟨rfl, .inl rfl, .inr rfl⟩) (by first | exact ⟨rfl, .inl rfl, .inl rfl⟩ | exact ⟨rfl, .inl rfl, .inr rfl⟩)) (fun _ _ _ _ => (pg_name (i := 0) (show (["row", "cells", "stride"] : List Str).Nodup by decide +kernel) rfl (Or.inl rfl))) (fun _ _ _ _ => (pe_slice sl_tupA (pv 1) (po_some (pe_op op_mul (pv 0) (pv 2))) (po_some (pe_op op_mul (pe_op op_add (pv 0) pe_int) (pv 2)))))) (pss_one (ps_ret (pe_comp (own := ["row"]) (fv := ["sides"]) (js := [1]) rfl (pi_list (pv 4)) rfl (by decide) rfl (by decide) (by first | exact fun _ _ h => h | exact cl_sub1 rfl | exact cl_sub2 rfl rfl | exact cl_sub3 rfl rfl rfl) (has_of (by rfl)) rfl (cap1 (by first | exact ⟨rfl, .inl rfl, .inl rfl⟩ | exact ⟨rfl, .inl rfl, .inr rfl⟩)) (fun _ _ _ _ => (pg_name (i := 0) (show (["row", "sides"] : List Str).Nodup by decide +kernel) rfl (Or.inl rfl))) (fun _ _ _ _ => (pe_cal cnested hr (by rfl) pass0 (pa_cons (pe_tup (pa_cons (pe_slice sl_tupA (pv 1) (po_some pe_int) po_none) (pa_cons (pv 0) pa_nil))) pa_nil))))))))))), ?_⟩
  simp only [L2.start, List.length_cons, List.length_nil, List.replicate, List.cons_append, List.nil_append, Nat.reduceSub, Nat.reduceAdd, List.map_cons, List.map_nil]
  wp_walk using rRepT
  refine ⟨_, ht, _, atI_nat (j := 0) rfl, _, ht, _, atI_nat (j := 1) rfl, _, rfl, _, .inr (.of ha), ?_⟩
  rw [len_map]
  cases ns with
  | nil =>
    rw [if_pos (by rfl)]
    have c1 : (cs.length : Int) = 1 := cl
    exact ⟨_, rfl, _, hc, _, atI_nat (j := 0) (by rw [List.getElem?_map, get_some (by omega)]; rfl), q _ _ (Same.refl _) rfl⟩
  | cons n ns =>
    rw [if_neg (by simp; omega)]
    have n0 := (hs n List.mem_cons_self).1
    have n9 := b n List.mem_cons_self
    have hs' : sdOk ns := fun m hm => hs m (List.mem_cons_of_mem _ hm)
    have p0 : 0 ≤ prodI ns := prod_nn fun m hm => (hs' m hm).1
    rw [prod_cons] at cl
    have dl : ns.length + 1 ≤ d0 := hd
    obtain ⟨d, rfl⟩ : ∃ d, d0 = d + 1 := ⟨d0 - 1, by omega⟩
    wp_walk using rRepT, spstridesof
    refine ⟨n :: ns, ha, hs, by simp; omega, fun H1 p s1 hp => ?_⟩
    refine ⟨_, hp, .int (prodI ns), by rw [stL_cons]; exact atI_nat (j := 0) rfl, _, s1 _ _ ha, _, atI_nat (j := 0) rfl, _, rfl, by omega, by omega, ?_⟩
    have hc1 := s1 _ _ hc
    refine CompR.mk (fun j ys σ G => Same H1 G ∧ (∃ ps : List Addr, ys = ps.map V.ref ∧ ps.length = j ∧ ∀ (i : Nat) r, ps[i]? = some r → G r = some (.tup ((chk cs (prodI ns).toNat i).map V.int))) ∧ ∃ y, σ = [y, some (.ref ca), some (.int (prodI ns))]) ⟨Same.refl _, ⟨[], rfl, rfl, fun i r e => by cases e⟩, _, rfl⟩ (fun j ys σ G hj h => ?_) (fun ys σ G h l hl => ?_)
    · obtain ⟨sG, ⟨ps, rfl, pl, hps⟩, y, rfl⟩ := h
      refine ⟨by rw [List.length_map, pl]; exact small1000 (by omega), ?_⟩
      have ck := chk_len (i := j) p0 (show (j : Int) < n by omega) cl
      wp_walk using rRepT
      refine ⟨.inl ⟨by omega, by omega⟩, .inl ⟨by omega, by omega⟩, _, sG _ _ hc1, fun r G2 s2 hr => ?_⟩
      rw [cut_chk p0 ck.2] at hr
      refine ⟨sG.trans s2, ⟨ps ++ [r], by rw [List.map_append]; rfl, by rw [List.length_append, pl]; rfl, fun i r' hr' => ?_⟩, _, rfl⟩
      rcases snoc_at hr' with h | ⟨rfl, h⟩
      · exact s2 _ _ (hps i r' h)
      · rw [h, pl]; exact hr
    · obtain ⟨sG, ⟨ps, rfl, pl, hps⟩, y, rfl⟩ := h
      have sl := sG.trans (same_new hl (.lst (ps.map V.ref)))
      have hll : upd G l (.lst (ps.map V.ref)) l = some (.lst (ps.map V.ref)) := upd_same
      have hps' : ∀ (i : Nat) r, ps[i]? = some r → upd G l (.lst (ps.map V.ref)) r = some (.tup ((chk cs (prodI ns).toNat i).map V.int)) := fun i r e => same_new hl _ _ _ (hps i r e)
      generalize upd G l (.lst (ps.map V.ref)) = G1 at *
      have s01 := s1.trans sl
      refine CompL.mk (xs := ps.map V.ref) (.of hll) (fun i ys σ G => Same G1 G ∧ ys.length = i ∧ (ys = [] ∨ ∃ (x : V) (rest : List V) (Hm : Hp), ys = x :: rest ∧ Same H Hm ∧ Same Hm G ∧ Nest ns (chk cs (prodI ns).toNat 0) H Hm x ∧ ∀ (i : Nat) y, rest[i]? = some y → Nest ns (chk cs (prodI ns).toNat (i + 1)) Hm G y) ∧ ∃ y, σ = [y, some (.ref sa)]) ⟨Same.refl _, rfl, .inl rfl, _, rfl⟩ (fun i ys σ G _ h => .of (h.1 _ _ hll)) (fun i x ys σ G ex h => ?_) (fun ys σ G h l2 hl2 => ?_)
      · obtain ⟨s3, yl, hy, y, rfl⟩ := h
        obtain ⟨r, rfl, er⟩ := ref_at ex
        have il := (List.getElem?_eq_some_iff.mp er).1
        have ck := chk_len (i := i) p0 (show (i : Int) < n by omega) cl
        refine ⟨by rw [yl]; exact small1000 (by omega), ?_⟩
        wp_walk using rRepT, spnested
        refine ⟨_, (s01.trans s3) _ _ ha, fun r1 G2 s2 hr1 => ⟨small (by decide), fun p2 hp2 => ?_⟩⟩
        rw [show (some (1 : Int)) = some ((1 : Nat) : Int) from rfl, cut_anyH] at hr1
        have sc := s2.trans (same_new hp2 (.tup [.ref r1, .ref r]))
        refine ⟨ns, chk cs (prodI ns).toNat i, ⟨r1, r, upd_same, same_new hp2 _ _ _ hr1, same_new hp2 _ _ _ (s2 _ _ (s3 _ _ (hps' i r er)))⟩, hs', by omega, by omega, ck.1, ?_, fun m hm => b m (List.mem_cons_of_mem _ hm), fun G' v s' nv => ?_⟩
        · unfold chk; rw [List.length_take, List.length_drop]; omega
        · exact ⟨s3.trans (sc.trans s'), by rw [List.length_append, yl]; rfl, .inr (nest_step hy ((s01.trans s3).trans sc) sc s' (by rw [yl]; exact nv)), _, rfl⟩
      · obtain ⟨s3, yl, hy, y, rfl⟩ := h
        have s4 := s01.trans s3
        refine q _ _ (s4.trans (same_new hl2 _)) ⟨l2, ys, rfl, same_none s4 hl2, upd_same, by rw [List.length_map] at yl; omega, hy.imp id ?_⟩
        rintro ⟨x, rest, Hm, f1, f2, f3, f4, f5⟩
        exact ⟨x, rest, Hm, f1, f2, f3.trans (same_new hl2 _), same_none f3 hl2, f4, fun i y hy => (f5 i y hy).up (same_new hl2 _)⟩
theorem oknestedA (F : Fun K "nested" "nested" snested f fd) (cstridesof : Callee P w K mg base CX0 1 "strides_of" ["sides"] spstridesof) (zlen : mg "len" = none) (zrange : mg "range" = none) (m : mg "nested" = some (.ref f)) (b : Binds K fd ["tab"] []) : ∀ d0 : Nat, FnOk P w K mg base CX0 (d0 + 1) f fd ["tab"] (spnested d0)
  | 0 => ⟨fun _ _ _ _ h => h.elim, fun _ _ _ _ _ _ _ _ _ _ _ _ _ h => h.elim⟩
  | d0 + 1 => (oknested F (cstridesof.mono (Nat.le_add_left _ _)) (Callee.mk' F m b (oknestedA F cstridesof zlen zrange m b d0)) zlen zrange).mono (by omega)
end
abbrev slawcount : Stmt := top 34
def splawcount : Nat → Sp := fun d => match d with | 0 => fun _ _ _ _ => False | d + 1 => fun vs H Q _ => ∃ (v : V) (m : Int), vs = [v] ∧ CntV d H v m ∧ ∀ H', Same H H' → Q (.int m) H'
section
variable {P : Program} {w : World} {K : PySem.W.Frag} {mg : Str → Option Value} {base : Heap} {f : Addr} {fd : FuncData}
theorem sclawcount : FnScope ["thing"] ["thing"] (defScope slawcount) := ⟨rfl, rfl, rfl, by decide +kernel, rfl, by decide +kernel, by decide +kernel⟩
theorem oklawcount (F : Fun K "_law_count" "_law_count" slawcount f fd) {d0 : Nat} (clawcount : Callee P w K mg base CX0 (d0 + 0) "_law_count" ["thing"] (splawcount d0)) (zisinstance : mg "isinstance" = none) (zlist : mg "list" = none) (zsum : mg "sum" = none) : FnOk P w K mg base CX0 (d0 + 1) f fd ["thing"] (splawcount (d0 + 1)) := by
  have sc := sclawcount
  refine F.ok sc (fun vs H Q E h => ?_) (fun cdv A outer s H vs Q E hr h => ?_)
  · obtain ⟨v, m, rfl, _⟩ := h; rfl
  obtain ⟨v, m, rfl, hv, q⟩ := h
  refine ⟨_, (pss_cons (ps_if (pt_not (pt_val (pe_callB call_isiIL (by rfl) zisinstance boot_isinstance (pa_cons (pv 0) (pa_cons (pe_bltn (v := .ty "list") (by rfl) zlist boot_list rfl) pa_nil))))) (pss_one (ps_ret pe_int)) pss_nil) (pss_one (ps_ret (pe_callB (call_sumL rfl) (by rfl) zsum boot_sum (pa_cons (pe_comp0 (own := ["one"]) rfl (pi_list (pv 0)) (by decide) (by decide) rfl (by decide) (fun _ _ _ _ => (pg_name (i := 0) (show (["one"] : List Str).Nodup by decide +kernel) rfl (Or.inl rfl))) (fun _ _ _ _ => (pe_cal clawcount hr (by rfl) pass0 (pa_cons (pv 0) pa_nil)))) pa_nil))))), ?_⟩
  simp only [L2.start, List.length_cons, List.length_nil, List.replicate, List.cons_append, List.nil_append, Nat.reduceSub, Nat.reduceAdd, List.map_cons, List.map_nil]
  wp_walk using rRepT
  cases d0 with
  | zero =>
    obtain ⟨⟨n, rfl⟩, rfl⟩ := hv
    exact .inl ⟨n, rfl, q _ (Same.refl _)⟩
  | succ d =>
    rcases hv with ⟨⟨n, rfl⟩, rfl⟩ | ⟨l, xs, ms, rfl, hl, ml, x9, rfl, f⟩
    · exact .inl ⟨n, rfl, q _ (Same.refl _)⟩
    refine .inr ⟨l, rfl, xs, hl, CompL.mk (xs := xs) (.of hl) (fun i ys σ G => Same H G ∧ ys = (ms.take i).map V.int ∧ ∃ y, σ = [y]) ⟨Same.refl _, rfl, _, rfl⟩ (fun i ys σ G _ h => .of (h.1 _ _ hl)) (fun i x ys σ G ex h => ?_) (fun ys σ G h p hp => ?_)⟩
    · obtain ⟨sG, rfl, y, rfl⟩ := h
      have il := (List.getElem?_eq_some_iff.mp ex).1
      have ek := get_some (ns := ms) (k := i) (by omega)
      have e1 : (ms.take (i + 1)).map V.int = (ms.take i).map V.int ++ [V.int (ms.getD i 0)] := by
        rw [List.take_add_one, ek, List.map_append]; rfl
      refine ⟨by rw [List.length_map, List.length_take]; exact small1000 (by omega), ?_⟩
      wp_walk using rRepT, splawcount, e1
      exact ⟨_, (f i x _ ex ek).up sG, fun G' s' => ⟨sG.trans s', rfl, _, rfl⟩⟩
    · obtain ⟨sG, rfl, y, rfl⟩ := h
      rw [ml, List.take_length]
      exact ⟨p, rfl, ms, .of upd_same, q _ (sG.trans (same_new hp _))⟩
theorem oklawcountA (F : Fun K "_law_count" "_law_count" slawcount f fd) (zisinstance : mg "isinstance" = none) (zlist : mg "list" = none) (zsum : mg "sum" = none) (m : mg "_law_count" = some (.ref f)) (b : Binds K fd ["thing"] []) : ∀ d0 : Nat, FnOk P w K mg base CX0 (d0 + 0) f fd ["thing"] (splawcount d0)
  | 0 => ⟨fun _ _ _ _ h => h.elim, fun _ _ _ _ _ _ _ _ _ _ _ _ _ h => h.elim⟩
  | d0 + 1 => (oklawcount F (Callee.mk' F m b (oklawcountA F zisinstance zlist zsum m b d0)) zisinstance zlist zsum).mono (by omega)
end
abbrev slawflat : Stmt := top 29
def splawflat : Nat → Sp := fun d => match d with | 0 => fun _ _ _ _ => False | d + 1 => fun vs H Q _ => ∃ (v : V) (s : Addr) (ns cs : List Int) (H0 : Hp), vs = [v, .ref s] ∧ Nest ns cs H0 H v ∧ H s = some (.tup (ns.map V.int)) ∧ sdOk ns ∧ ns.length ≤ d ∧ (cs.length : Int) = prodI ns ∧ cs.length ≤ 900 ∧ (∀ n ∈ ns, n ≤ 899) ∧ ∀ H' p, Same H H' → H' p = some (.lst (cs.map V.int)) → Q (.ref p) H'
section
variable {P : Program} {w : World} {K : PySem.W.Frag} {mg : Str → Option Value} {base : Heap} {f : Addr} {fd : FuncData}
theorem sclawflat : FnScope ["thing", "sides", "out", "one", "more"] ["thing", "sides"] (defScope slawflat) := ⟨rfl, rfl, rfl, by decide +kernel, rfl, by decide +kernel, by decide +kernel⟩
theorem oklawflat (F : Fun K "_law_flat" "_law_flat" slawflat f fd) {d0 : Nat} (clawflat : Callee P w K mg base CX0 (d0 + 0) "_law_flat" ["thing", "sides"] (splawflat d0)) (zisinstance : mg "isinstance" = none) (zlist : mg "list" = none) (zlen : mg "len" = none) : FnOk P w K mg base CX0 (d0 + 1) f fd ["thing", "sides"] (splawflat (d0 + 1)) := by
  have sc := sclawflat
  refine F.ok sc (fun vs H Q E h => ?_) (fun cdv A outer s H vs Q E hr h => ?_)
  · obtain ⟨v, sa, ns, cs, H0, rfl, _⟩ := h; rfl
  obtain ⟨v, sa, ns, cs, H0, rfl, hv, ha, hs, hd, cl, c9, b, q⟩ := h
  refine ⟨_, (pss_cons (ps_if (pt_cmpR op_eq (pe_callB call_len_seq (by rfl) zlen PySem.boot_len (pa_cons (pv 1) pa_nil)) pe_int (nomark _)) (pss_one (ps_ret (pe_lst (pa_cons (pv 0) pa_nil)))) pss_nil) (pss_cons (ps_if (pw_or (pt_not (pt_val (pe_callB call_isiIL (by rfl) zisinstance boot_isinstance (pa_cons (pv 0) (pa_cons (pe_bltn (v := .ty "list") (by rfl) zlist boot_list rfl) pa_nil))))) (pw_or1 (pt_cmpR op_ne (pe_callB call_len_seq (by rfl) zlen PySem.boot_len (pa_cons (pv 0) pa_nil)) (pe_ix ix_tupH (pv 1) pe_int (fun _ _ => rfl)) (nomark _)))).pt (pss_one (ps_ret pe_non)) pss_nil) (pss_cons (ps_set (i := 2) sc.nd rfl (by first | exact Or.inl rfl | exact Or.inr rfl) (pe_lst pa_nil)) (pss_cons (ps_for PassesOwn.never rfl (pi_list (pv 0)) (pg_name (i := 3) sc.nd rfl (Or.inl rfl)) (pss_cons (ps_set (i := 4) sc.nd rfl (by first | exact Or.inl rfl | exact Or.inr rfl) (pe_cal clawflat hr (by rfl) pass0 (pa_cons (pv 3) (pa_cons (pe_slice sl_tupA (pv 1) (po_some pe_int) po_none) pa_nil)))) (pss_cons (ps_if (pt_cmpR op_isN (pv 4) pe_non (nomark _)) (pss_one (ps_ret pe_non)) pss_nil) (pss_one (ps_set (i := 2) sc.nd rfl (by first | exact Or.inl rfl | exact Or.inr rfl) (pe_op op_cat (pv 2) (pv 4))))))) (pss_one (ps_ret (pv 2))))))), ?_⟩
  simp only [L2.start, List.length_cons, List.length_nil, List.replicate, List.cons_append, List.nil_append, Nat.reduceSub, Nat.reduceAdd, List.map_cons, List.map_nil]
  wp_walk using rRepT
  refine ⟨_, .inr (.of ha), ?_⟩
  rw [len_map]
  cases ns with
  | nil =>
    rw [if_pos (by rfl)]
    have c1 : (cs.length : Int) = 1 := cl
    have ec : cs = [cs.getD 0 0] := by
      match cs, c1 with
      | [c], _ => rfl
      | [], h => simp at h
      | _ :: _ :: _, h => simp at h; omega
    cases (show v = .int (cs.getD 0 0) from hv)
    exact ⟨small (by decide), fun p hp => q _ p (same_new hp _) (by rw [upd_same, ec]; rfl)⟩
  | cons n ns =>
    rw [if_neg (by simp; omega)]
    have n0 := (hs n List.mem_cons_self).1
    have n9 := b n List.mem_cons_self
    have hs' : sdOk ns := fun m hm => hs m (List.mem_cons_of_mem _ hm)
    have p0 : 0 ≤ prodI ns := prod_nn fun m hm => (hs' m hm).1
    rw [prod_cons] at cl
    have dl : ns.length + 1 ≤ d0 := hd
    obtain ⟨d, rfl⟩ : ∃ d, d0 = d + 1 := ⟨d0 - 1, by omega⟩
    obtain ⟨l, xs, rfl, e2, e3, e4, e5⟩ := hv
    have hx : ∀ (i : Nat) x, xs[i]? = some x → ∃ H1, Nest ns (chk cs (prodI ns).toNat i) H1 H x := fun i x e => by
      rcases e5 with rfl | ⟨x0, rest, Hm, rfl, f2, f3, f4, f5, f6⟩
      · cases e
      · cases i with
        | zero => cases e; exact ⟨_, f5.up f3⟩
        | succ i => exact ⟨_, f6 i x e⟩
    refine .inr ⟨l, rfl, xs, e3, ?_⟩
    refine ⟨l, rfl, xs, .inl (.of e3), _, ha, .int n, atI_nat (j := 0) rfl, rfl, ?_⟩
    rw [if_neg (fun z => z (by rw [e4]))]
    refine ⟨Nat.zero_le _, fun p hp => LoopL.mk (xs := xs) (.of (same_new hp _ _ _ e3)) (fun i σ G => Same H G ∧ ∃ p, G p = some (.lst ((cs.take (i * (prodI ns).toNat)).map V.int)) ∧ ∃ y3 y4, σ = [some (.ref l), some (.ref sa), some (.ref p), y3, y4]) ⟨same_new hp _, p, by rw [upd_same, Nat.zero_mul]; rfl, _, _, rfl⟩ (fun i σ G _ h => .of (h.1 _ _ e3)) (fun i x σ G ex h => ?_) (fun σ G h => ?_)⟩
    · obtain ⟨sG, p1, hp1, y3, y4, rfl⟩ := h
      obtain ⟨H1, nx⟩ := hx i x ex
      have il := (List.getElem?_eq_some_iff.mp ex).1
      have ck := chk_len (i := i) p0 (show (i : Int) < n by omega) cl
      wp_walk using rRepT, splawflat
      refine ⟨_, sG _ _ ha, fun r1 G2 s2 hr1 => ?_⟩
      rw [show (some (1 : Int)) = some ((1 : Nat) : Int) from rfl, cut_anyH] at hr1
      refine ⟨ns, chk cs (prodI ns).toNat i, H1, nx.up (sG.trans s2), hr1, hs', by omega, ck.1, ?_, fun m hm => b m (List.mem_cons_of_mem _ hm), fun G3 p3 s3 hp3 => ?_⟩
      · unfold chk; rw [List.length_take, List.length_drop]; omega
      rw [if_neg (fun z => by cases z)]
      refine ⟨_, s3 _ _ (s2 _ _ hp1), _, hp3, ?_, fun p4 hp4 => ⟨sG.trans (s2.trans (s3.trans (same_new hp4 _))), p4, by rw [upd_same, flat_snoc], rfl, _, rfl⟩⟩
      rw [← List.length_append, ← flat_snoc, List.length_map, List.length_take]
      exact Nat.le_of_lt (small1000 (by omega))
    · obtain ⟨sG, p1, hp1, y3, y4, rfl⟩ := h
      wp_walk using rRepT
      refine q _ p1 sG ?_
      rw [hp1, flat_all e4 cl p0]
theorem oklawflatA (F : Fun K "_law_flat" "_law_flat" slawflat f fd) (zisinstance : mg "isinstance" = none) (zlist : mg "list" = none) (zlen : mg "len" = none) (m : mg "_law_flat" = some (.ref f)) (b : Binds K fd ["thing", "sides"] []) : ∀ d0 : Nat, FnOk P w K mg base CX0 (d0 + 0) f fd ["thing", "sides"] (splawflat d0)
  | 0 => ⟨fun _ _ _ _ h => h.elim, fun _ _ _ _ _ _ _ _ _ _ _ _ _ h => h.elim⟩
  | d0 + 1 => (oklawflat F (Callee.mk' F m b (oklawflatA F zisinstance zlist zlen m b d0)) zisinstance zlist zlen).mono (by omega)
end
abbrev slawownlists : Stmt := top 35
def splawownlists : Sp := fun vs H Q _ => ∃ (ta sa : Addr) (ns cs : List Int), vs = [.ref ta, .ref sa, .int (prodI ns)] ∧ TbAt H ta ns cs ∧ H sa = some (.tup (ns.map V.int)) ∧ sdOk ns ∧ ns.length ≤ 6 ∧ (cs.length : Int) = prodI ns ∧ prodI ns ≤ 512 ∧ (∀ n ∈ ns, n ≤ 899) ∧ ∀ H', Same H H' → Q (.bl true) H'
section
variable {P : Program} {w : World} {K : PySem.W.Frag} {mg : Str → Option Value} {base : Heap} {f : Addr} {fd : FuncData}
theorem sclawownlists : FnScope ["tab", "sides", "size", "told", "places", "first", "k"] ["tab", "sides", "size"] (defScope slawownlists) := ⟨rfl, rfl, rfl, by decide +kernel, rfl, by decide +kernel, by decide +kernel⟩
theorem oklawownlists (F : Fun K "_law_own_lists" "_law_own_lists" slawownlists f fd) (cnested : Callee P w K mg base CX0 (11) "nested" ["tab"] (spnested 8)) (callat : Callee P w K mg base CX0 (11) "all_at" ["sides"] spallat) (clawcount : Callee P w K mg base CX0 (11) "_law_count" ["thing"] (splawcount 9)) (zlen : mg "len" = none) (zrange : mg "range" = none) : FnOk P w K mg base CX0 (12) f fd ["tab", "sides", "size"] (splawownlists) := by
  have sc := sclawownlists
  refine F.ok sc (fun vs H Q E h => ?_) (fun cdv A outer s H vs Q E hr h => ?_)
  · obtain ⟨ta, sa, ns, cs, rfl, _⟩ := h; rfl
  obtain ⟨ta, sa, ns, cs, rfl, ht, ha, hs, h6, cl, p5, b, q⟩ := h
  refine ⟨_, (pss_cons (ps_set (i := 3) sc.nd rfl (by first | exact Or.inl rfl | exact Or.inr rfl) (pe_cal cnested hr (by rfl) pass0 (pa_cons (pv 0) pa_nil))) (pss_cons (ps_set (i := 4) sc.nd rfl (by first | exact Or.inl rfl | exact Or.inr rfl) (pe_cal callat hr (by rfl) pass0 (pa_cons (pv 1) pa_nil))) (pss_cons (ps_expr (pe_app (pv 4) (pe_tup pa_nil))) (pss_cons (ps_if (pw_and (pt_cmpR op_gt (pe_callB call_len_seq (by rfl) zlen PySem.boot_len (pa_cons (pv 1) pa_nil)) pe_int (nomark _)) (pw_and1 (pt_cmpR op_gt (pv 2) pe_int (nomark _)))).pt (pss_cons (ps_set (i := 5) sc.nd rfl (by first | exact Or.inl rfl | exact Or.inr rfl) (pv 3)) (pss_cons (ps_for PassesOwn.never rfl (pi_range1 (by rfl) zrange (pa_cons (pe_op op_sub (pe_callB call_len_seq (by rfl) zlen PySem.boot_len (pa_cons (pv 1) pa_nil)) pe_int) pa_nil)) (pg_name (i := 6) sc.nd rfl (Or.inl rfl)) (pss_one (ps_set (i := 5) sc.nd rfl (by first | exact Or.inl rfl | exact Or.inr rfl) (pe_ix ix_listH (pv 5) pe_int (fun _ _ => rfl))))) (pss_cons (ps_expr (pe_app (pv 5) pe_int)) (pss_one (ps_if (pw_or (pt_cmpR op_ne (pe_cal clawcount hr (by rfl) pass0 (pa_cons (pv 3) pa_nil)) (pe_op op_add (pv 2) pe_int) (nomark _)) (pw_or1 (pt_cmpR op_ne (pe_cal clawcount hr (by rfl) pass0 (pa_cons (pe_cal cnested hr (by rfl) pass0 (pa_cons (pv 0) pa_nil)) pa_nil)) (pv 2) (nomark _)))).pt (pss_one (ps_ret pe_bl)) pss_nil))))) pss_nil) (pss_one (ps_ret (pe_cmpR op_eq (pe_callB call_len_seq (by rfl) zlen PySem.boot_len (pa_cons (pe_cal callat hr (by rfl) pass0 (pa_cons (pv 1) pa_nil)) pa_nil)) (pv 2) (nomark _)))))))), ?_⟩
  simp only [L2.start, List.length_cons, List.length_nil, List.replicate, List.cons_append, List.nil_append, Nat.reduceSub, Nat.reduceAdd, List.map_cons, List.map_nil]
  refine seq_with (fun σ G => ∃ v, Same H G ∧ Nest ns cs H G v ∧ σ = [some (.ref ta), some (.ref sa), some (.int (prodI ns)), some v, none, none, none]) ?_ (fun R hR => ?_)
  rotate_left
  · wp_walk using rRepT, spnested
    exact ⟨ns, cs, ht, hs, by omega, by omega, cl, by omega, b, fun G v s nv => hR _ _ ⟨v, s, nv, rfl⟩⟩
  rintro σ1 G1 ⟨v, s1, nv, rfl⟩
  refine seq_with (fun σ G => ∃ l ps, Same G1 G ∧ G1 l = none ∧ G l = some (.lst (List.map V.ref ps)) ∧ ps.length = (prodI ns).toNat ∧ σ = [some (.ref ta), some (.ref sa), some (.int (prodI ns)), some v, some (.ref l), none, none]) ?_ (fun R hR => ?_)
  rotate_left
  · wp_walk using rRepT, spallat
    exact ⟨ns, s1 _ _ ha, hs, by omega, p5, fun G l ps s l0 hl tp => hR _ _ ⟨l, ps, s, l0, hl, by rw [tp.1, all_len], rfl⟩⟩
  rintro σ2 G2 ⟨l, ps, s2, l0, hl, pl, rfl⟩
  refine seq_with (fun σ G => Same G1 G ∧ σ = [some (.ref ta), some (.ref sa), some (.int (prodI ns)), some v, some (.ref l), none, none]) ?_ (fun R hR => ?_)
  rotate_left
  · wp_walk using rRepT
    refine ⟨⟨_, hl⟩, Nat.zero_le _, fun p hp => ⟨_, same_new hp _ _ _ hl, by rw [List.length_map]; exact small1000 (by omega), hR _ _ ⟨?_, rfl⟩⟩⟩
    exact same_put (s2.trans (same_new hp _)) l0
  rintro σ3 G3 ⟨s3, rfl⟩
  have s03 := s1.trans s3
  have W : ∀ y5 y6 : Option V, True := fun _ _ => trivial
  refine seq_with (fun σ G => Same H G ∧ ∃ y5 y6, σ = [some (.ref ta), some (.ref sa), some (.int (prodI ns)), some v, some (.ref l), y5, y6]) ?_ (fun R hR => ?_)
  · rintro σ G ⟨sG, y5, y6, rfl⟩
    wp_walk using rRepT, spallat
    refine ⟨ns, sG _ _ ha, hs, by omega, p5, fun G' l ps s l0 hl tp => ⟨_, .inl (.of hl), ?_⟩⟩
    rw [List.length_map, tp.1, all_len, decide_eq_true (by omega)]
    exact q _ (sG.trans s)
  wp_walk using rRepT
  have ha3 := s03 _ _ ha
  refine ⟨_, .inr (.of ha3), ?_⟩
  rw [len_map]
  by_cases c1 : 0 < (ns.length : Int)
  rotate_left
  · rw [if_neg c1]; exact hR _ _ ⟨s03, _, _, rfl⟩
  rw [if_pos c1]
  by_cases c2 : 0 < prodI ns
  rotate_left
  · rw [if_neg c2]; exact hR _ _ ⟨s03, _, _, rfl⟩
  rw [if_pos c2]
  have nv3 := nv.up s3
  obtain ⟨l0, ys, hf⟩ := nv3.fst (fun z => by rw [z] at c1; exact absurd c1 (by decide)) (pos_ofS hs (by omega))
  refine ⟨_, .inr (.of ha3), ?_⟩
  rw [len_map]
  refine ⟨by omega, by omega, ?_⟩
  refine LoopR.mk (fun i σ G => G = G3 ∧ ∃ x y6, FstL (ns.drop i) G3 x l0 ys ∧ σ = [some (.ref ta), some (.ref sa), some (.int (prodI ns)), some v, some (.ref l), some x, y6]) ⟨rfl, v, _, hf, rfl⟩ (fun i σ G hi h => ?_) (fun σ G h => ?_)
  · obtain ⟨rfl, x, y6, fx, rfl⟩ := h
    wp_walk using rRepT
    obtain ⟨l1, y, rest, rfl, h1, f1⟩ := fst_step (by omega) fx
    exact ⟨l1, rfl, _, h1, _, atI_nat (j := 0) rfl, y, f1, rfl, _, rfl⟩
  · obtain ⟨rfl, x, y6, fx, rfl⟩ := h
    obtain ⟨rfl, h0⟩ := fst_end (by omega) fx
    have y9 := hf.len nv3 b
    have b9 : ∀ n ∈ ns, n ≤ 900 := fun n hn => Int.le_trans (b n hn) (by decide)
    have su : Same H (upd G l0 (.lst (ys ++ [.int 9]))) := same_put s03 (hf.new nv3)
    wp_walk using rRepT, splawcount, spnested
    refine ⟨⟨_, h0⟩, _, h0, small1000 (by omega), _, (nv3.cnt_on b hf).le (by omega), fun G4 s4 => ?_⟩
    rw [if_neg (fun z => z rfl)]
    have s04 := su.trans s4
    refine ⟨ns, cs, ht.same s04, hs, by omega, by omega, cl, by omega, b, fun G5 v5 s5 nv5 => ⟨_, (nv5.cnt b9).le (by omega), fun G6 s6 => ?_⟩⟩
    rw [if_neg (fun z => z rfl)]
    exact hR _ _ ⟨s04.trans (s5.trans s6), _, _, rfl⟩
end
abbrev slawrefusal : Stmt := top 30
def splawrefusal : Sp := fun vs H Q _ => ∃ (a c : Addr) (ns cs : List Int), vs = [.ref a, .ref c] ∧ H a = some (.tup (ns.map V.int)) ∧ RwI H c cs ∧ sdOk ns ∧ ns.length ≤ 63 ∧ cs.length ≤ 900 ∧ (bigI ns ∨ ¬ (cs.length : Int) = prodI ns) ∧ ((bigI ns → ∀ H', Same H H' → Q (.str "largeFalse") H') ∧ (¬ bigI ns → ∀ H', Same H H' → Q (.str "unlikeFalse") H'))
section
variable {P : Program} {w : World} {K : PySem.W.Frag} {mg : Str → Option Value} {base : Heap} {f : Addr} {fd : FuncData}
theorem sclawrefusal : FnScope ["sides", "cells", "word", "e"] ["sides", "cells"] (defScope slawrefusal) := ⟨rfl, rfl, rfl, by decide +kernel, rfl, by decide +kernel, by decide +kernel⟩
theorem oklawrefusal (F : Fun K "_law_refusal" "_law_refusal" slawrefusal f fd) {CBeyond : Addr} (nBeyond : PySem.W.nsIn K mainGlobals "Beyond" = some (some (.ref CBeyond))) {CLoomError : Addr} (nLoomError : PySem.W.nsIn K mainGlobals "LoomError" = some (some (.ref CLoomError))) {CNoPlace : Addr} (nNoPlace : PySem.W.nsIn K mainGlobals "NoPlace" = some (some (.ref CNoPlace))) {CNoSide : Addr} (nNoSide : PySem.W.nsIn K mainGlobals "NoSide" = some (some (.ref CNoSide))) {CTooLarge : Addr} (nTooLarge : PySem.W.nsIn K mainGlobals "TooLarge" = some (some (.ref CTooLarge))) {CUnlike : Addr} (nUnlike : PySem.W.nsIn K mainGlobals "Unlike" = some (some (.ref CUnlike))) (ctableof : Callee P w K mg base (CX1 P w) (4) "table_of" ["sides", "cells"] (sptableof CTooLarge CUnlike)) (zstr : mg "str" = none) (zisinstance : mg "isinstance" = none) (kT : ExcK K CTooLarge) (iT : PySem.W.kitOne K (.ref CTooLarge) (.ref CLoomError) = some true) (aT : PySem.W.kitAny K (.ref CTooLarge) ([CUnlike, CNoPlace, CNoSide, CBeyond].map Value.ref) = some false) (kU : ExcK K CUnlike) (iU : PySem.W.kitOne K (.ref CUnlike) (.ref CLoomError) = some true) (aU : PySem.W.kitAny K (.ref CUnlike) ([CTooLarge, CNoPlace, CNoSide, CBeyond].map Value.ref) = some false) (eTT : PySem.W.exmOne K (.ref CTooLarge) (.ref CTooLarge) = some true) (eUT : PySem.W.exmOne K (.ref CUnlike) (.ref CTooLarge) = some false) (eUU : PySem.W.exmOne K (.ref CUnlike) (.ref CUnlike) = some true) : FnOk P w K mg base CX0 (5) f fd ["sides", "cells"] (splawrefusal) := by
  have sc := sclawrefusal
  refine F.ok sc (fun vs H Q E h => ?_) (fun cdv A outer s H vs Q E hr h => ?_)
  · obtain ⟨a, c, ns, cs, rfl, _⟩ := h; rfl
  obtain ⟨a, c0, ns, cs, rfl, ha, hc, hs, h63, h9, no, q1, q2⟩ := h
  refine ⟨_, (pss_cons (ps_set (i := 2) sc.nd rfl (by first | exact Or.inl rfl | exact Or.inr rfl) pe_str) (pss_cons (ps_tryA ⟨rfl, rfl⟩ rfl sc.nd (fun xe pn EE hx => (pss_one (ps_expr (pe_calX ctableof hr (by rfl) hx (pa_cons (pv 0) (pa_cons (pv 1) pa_nil)))))) (.cons (i := 3) rfl rfl (by rfl) nTooLarge (fun ae pn => (pss_one (ps_set (i := 2) sc.nd rfl (by first | exact Or.inl rfl | exact Or.inr rfl) (pe_op op_add_str pe_str (pe_callTy call_strB (by rfl) zstr boot_str (pa_cons (pe_or (pe_callB (call_isiET kT aT) (by rfl) zisinstance boot_isinstance (pa_cons (pv 3) (pa_cons (pe_tup (pa_cons (pe_cls (by rfl) nUnlike) (pa_cons (pe_cls (by rfl) nNoPlace) (pa_cons (pe_cls (by rfl) nNoSide) (pa_cons (pe_cls (by rfl) nBeyond) pa_nil))))) pa_nil))) (pe_one (pe_not (pe_callB (isi_or (call_isiE (vc := .ref CLoomError) kT rfl iT) (call_isiE (vc := .ref CLoomError) kU rfl iU)) (by rfl) zisinstance boot_isinstance (pa_cons (pv 3) (pa_cons (pe_cls (by rfl) nLoomError) pa_nil)))))) pa_nil)))))) (.cons (i := 3) rfl rfl (by rfl) nUnlike (fun ae pn => (pss_one (ps_set (i := 2) sc.nd rfl (by first | exact Or.inl rfl | exact Or.inr rfl) (pe_op op_add_str pe_str (pe_callTy call_strB (by rfl) zstr boot_str (pa_cons (pe_or (pe_callB (call_isiET kU aU) (by rfl) zisinstance boot_isinstance (pa_cons (pv 3) (pa_cons (pe_tup (pa_cons (pe_cls (by rfl) nTooLarge) (pa_cons (pe_cls (by rfl) nNoPlace) (pa_cons (pe_cls (by rfl) nNoSide) (pa_cons (pe_cls (by rfl) nBeyond) pa_nil))))) pa_nil))) (pe_one (pe_not (pe_callB (isi_or (call_isiE (vc := .ref CLoomError) kT rfl iT) (call_isiE (vc := .ref CLoomError) kU rfl iU)) (by rfl) zisinstance boot_isinstance (pa_cons (pv 3) (pa_cons (pe_cls (by rfl) nLoomError) pa_nil)))))) pa_nil)))))) .nil (by decide)) (by decide))) (pss_one (ps_ret (pv 2))))), ?_⟩
  simp only [L2.start, List.length_cons, List.length_nil, List.replicate, List.cons_append, List.nil_append, Nat.reduceSub, Nat.reduceAdd, List.map_cons, List.map_nil]
  wp_walk using rRepT, sptableof
  refine ⟨ns, ha, cs, hc, hs, h63, h9, fun b G s => ⟨CTooLarge, rfl, .inl ⟨eTT, fun x hx => ⟨small (by decide), fun p hp => ⟨same_new hp _ _ _ upd_same, .inl ⟨same_new hp _ _ _ upd_same, ?_⟩⟩⟩⟩⟩, fun b no' G s => ⟨CUnlike, rfl, .inr ⟨eUT, .inl ⟨eUU, fun x hx => ⟨small (by decide), fun p hp => ⟨same_new hp _ _ _ upd_same, .inr ⟨same_new hp _ _ _ upd_same, ?_⟩⟩⟩⟩⟩⟩, fun b e => ?_⟩
  · refine ⟨small (by decide +kernel), ?_⟩
    rw [show Str.ofString "large" ++ Str.ofString "False" = Str.ofString "largeFalse" from by decide +kernel]
    exact q1 b _ (s.trans ((same_new hx _).trans (same_new hp _)))
  · refine ⟨small (by decide +kernel), ?_⟩
    rw [show Str.ofString "unlike" ++ Str.ofString "False" = Str.ofString "unlikeFalse" from by decide +kernel]
    exact q2 b _ (s.trans ((same_new hx _).trans (same_new hp _)))
  · exact (no.elim b (fun y => y e)).elim
end
abbrev slawsides : Stmt := top 28
def splawsides : PySem.W.Frag → Sp := fun K => fun vs H Q _ => ∃ (a : Addr) (rs : List Int), vs = [.ref a] ∧ SqL K H a (rs.map V.int) ∧ rs.length ≤ 63 ∧ ∀ H' p ns, Same H H' → sdOk ns → ¬ bigI ns → ns.length ≤ 6 → (∀ n ∈ ns, n ≤ 899) → H' p = some (.tup (ns.map V.int)) → Q (.ref p) H'
section
variable {P : Program} {w : World} {K : PySem.W.Frag} {mg : Str → Option Value} {base : Heap} {f : Addr} {fd : FuncData}
theorem sclawsides : FnScope ["script", "sides", "size", "left", "k", "side", "wide"] ["script"] (defScope slawsides) := ⟨rfl, rfl, rfl, by decide +kernel, rfl, by decide +kernel, by decide +kernel⟩
theorem oklawsides (F : Fun K "_law_sides" "_law_sides" slawsides f fd) (clawat : Callee P w K mg base CX0 (1) "_law_at" ["script", "k"] (splawat K)) (zrange : mg "range" = none) (zmax : mg "max" = none) (zlen : mg "len" = none) (ztuple : mg "tuple" = none) : FnOk P w K mg base CX0 (2) f fd ["script"] ((splawsides K)) := by
  have sc := sclawsides
  refine F.ok sc (fun vs H Q E h => ?_) (fun cdv A outer s H vs Q E hr h => ?_)
  · obtain ⟨a, rs, rfl, _⟩ := h; rfl
  obtain ⟨a, rs, rfl, ha, h63, q⟩ := h
  refine ⟨_, (pss_cons (ps_set (i := 1) sc.nd rfl (by first | exact Or.inl rfl | exact Or.inr rfl) (pe_lst pa_nil)) (pss_cons (ps_set (i := 2) sc.nd rfl (by first | exact Or.inl rfl | exact Or.inr rfl) pe_int) (pss_cons (ps_set (i := 3) sc.nd rfl (by first | exact Or.inl rfl | exact Or.inr rfl) (pe_cal clawat hr (by rfl) pass0 (pa_cons (pv 0) (pa_cons pe_int pa_nil)))) (pss_cons (ps_for PassesOwn.never rfl (pi_range1 (by rfl) zrange (pa_cons (pe_op op_mod (pe_cal clawat hr (by rfl) pass0 (pa_cons (pv 0) (pa_cons pe_int pa_nil))) pe_int) pa_nil)) (pg_name (i := 4) sc.nd rfl (Or.inl rfl)) (pss_cons (ps_set (i := 5) sc.nd rfl (by first | exact Or.inl rfl | exact Or.inr rfl) (pe_op op_add pe_int (pe_op op_mod (pv 3) pe_int))) (pss_cons (ps_set (i := 3) sc.nd rfl (by first | exact Or.inl rfl | exact Or.inr rfl) (pe_op op_fdiv (pv 3) pe_int)) (pss_cons (ps_if (pt_cmpR op_eq (pe_op op_mod (pe_cal clawat hr (by rfl) pass0 (pa_cons (pv 0) (pa_cons pe_int pa_nil))) pe_int) (pv 4) (nomark _)) (pss_one (ps_set (i := 5) sc.nd rfl (by first | exact Or.inl rfl | exact Or.inr rfl) pe_int)) pss_nil) (pss_cons (ps_expr (pe_app (pv 1) (pv 5))) (pss_one (ps_set (i := 2) sc.nd rfl (by first | exact Or.inl rfl | exact Or.inr rfl) (pe_op op_mul (pv 2) (pe_callB (call_max2 rfl) (by rfl) zmax boot_max (pa_cons pe_int (pa_cons (pv 5) pa_nil))))))))))) (pss_cons (ps_set (i := 6) sc.nd rfl (by first | exact Or.inl rfl | exact Or.inr rfl) (pe_callB (call_max2 rfl) (by rfl) zmax boot_max (pa_cons (pe_callB call_len_seq (by rfl) zlen PySem.boot_len (pa_cons (pe_slice sl_list (pv 0) po_none (po_some pe_int)) pa_nil)) (pa_cons (pe_op op_mod (pe_op op_fdiv (pe_cal clawat hr (by rfl) pass0 (pa_cons (pv 0) (pa_cons pe_int pa_nil))) pe_int) pe_int) pa_nil)))) (pss_cons (ps_if (pw_or (pt_cmpR op_gt (pe_op op_mod (pe_cal clawat hr (by rfl) pass0 (pa_cons (pv 0) (pa_cons pe_int pa_nil))) pe_int) pe_int (nomark _)) (pw_or (pt_cmpR op_gt (pv 6) pe_int (nomark _)) (pw_or1 (pt_cmpR op_gt (pe_callB call_len_seq (by rfl) zlen PySem.boot_len (pa_cons (pv 1) pa_nil)) pe_int (nomark _))))).pt (pss_one (ps_expr (pe_bm PySem.F.plainAttrs_list PySem.F.slot_list_insert PySem.F.type_list_insert mt_insert (pv 1) (pa_cons (pe_op op_mod (pe_op op_fdiv (pe_cal clawat hr (by rfl) pass0 (pa_cons (pv 0) (pa_cons pe_int pa_nil))) pe_int) (pe_op op_add (pe_callB call_len_seq (by rfl) zlen PySem.boot_len (pa_cons (pv 1) pa_nil)) pe_int)) (pa_cons (pe_op op_fdiv (pe_op op_sub (pe_op op_add (pv 6) (pv 2)) pe_int) (pv 2)) pa_nil))))) pss_nil) (pss_one (ps_ret (pe_callTy call_tuple_of (by rfl) ztuple boot_tuple (pa_cons (pv 1) pa_nil)))))))))), ?_⟩
  simp only [L2.start, List.length_cons, List.length_nil, List.replicate, List.cons_append, List.nil_append, Nat.reduceSub, Nat.reduceAdd, List.map_cons, List.map_nil]
  wp_walk using rRepT, splawat
  refine ⟨Nat.zero_le _, fun p hp => ⟨rs, 1, rfl, (same_new hp _).seq ha, rs, 0, rfl, (same_new hp _).seq ha, by omega, by omega, ?_⟩⟩
  refine LoopR.mk (fun i σ G => Same H G ∧ ∃ (ls : List Int) (s : Nat) (lf : Int) (y4 y5 : Option V), G p = some (.lst (ls.map V.int)) ∧ ls.length = i ∧ s ∈ fl i ∧ prodI (ls.map one1) = (s : Int) ∧ (∀ n ∈ ls, 0 ≤ n ∧ n ≤ 3) ∧ σ = [some (.ref a), some (.ref p), some (.int s), some (.int lf), y4, y5, none]) ⟨same_new hp _, [], 1, _, _, _, upd_same, rfl, by decide, rfl, (by intro n hn; cases hn), rfl⟩ (fun i σ G hi h => ?_) (fun σ G h => ?_)
  · obtain ⟨sG, ls, s, lf, y4, y5, hG, ll, hs, pr, b3, rfl⟩ := h
    wp_walk using rRepT, splawat
    have f5 := flD_le s (fl_in i (by omega) s hs)
    refine ⟨rs, 2, rfl, sG.seq ha, ?_⟩
    have w : (ls.map V.int).length < sizeLine := by rw [List.length_map]; exact small1000 (by omega)
    split
    · obtain ⟨l2, g1, g2, x, g3, g4, g5, g6⟩ := side_step (n := 0) hs ll pr b3 (by decide) (by decide)
      exact ⟨⟨_, hG⟩, _, hG, w, .inl ⟨by omega, by omega⟩, same_put sG hp, l2, g1, g2, x, g3, g4, g5, g6, _, rfl⟩
    · obtain ⟨l2, g1, g2, x, g3, g4, g5, g6⟩ := side_step (n := 1 + lf % 3) hs ll pr b3 (by omega) (by omega)
      exact ⟨⟨_, hG⟩, _, hG, w, .inl ⟨by omega, by omega⟩, same_put sG hp, l2, g1, g2, x, g3, g4, g5, g6, _, rfl⟩
  · obtain ⟨sG, ls, s, lf, y4, y5, hG, ll, hs, pr, b3, rfl⟩ := h
    have f5 := flD_le s (fl_in _ (by omega) s hs)
    dsimp only
    refine seq_with (fun σ G' => ∃ (wd : Nat), Same H G' ∧ G' p = some (.lst (ls.map V.int)) ∧ wd < 401 ∧ σ = [some (.ref a), some (.ref p), some (.int s), some (.int lf), y4, y5, some (.int wd)]) ?_ (fun R hR => ?_)
    rotate_left
    · wp_walk using rRepT, splawat, rSlL
      refine ⟨_, sG.seq ha, fun p1 hp1 => ?_⟩
      have s1 := same_new hp1 (.lst (cutV (rs.map V.int) none (some 400)))
      refine ⟨_, .inl (.of upd_same), rs, 3, rfl, (sG.trans s1).seq ha, ?_⟩
      obtain ⟨wd, e, w4⟩ : ∃ wd : Nat, (if cellI rs 3 / 20 % 150 > ((cutV (rs.map V.int) none (some 400)).length : Int) then cellI rs 3 / 20 % 150 else ((cutV (rs.map V.int) none (some 400)).length : Int)) = (wd : Int) ∧ wd < 401 := by
        have cle : (cutV (rs.map V.int) none (some 400)).length ≤ rs.length := by
          rw [show (some (400 : Int)) = some ((400 : Nat) : Int) from rfl, cut_any, List.length_map, List.length_take]; omega
        generalize (cutV (rs.map V.int) none (some 400)).length = cn at *
        generalize cellI rs 3 = z
        split
        · exact ⟨(z / 20 % 150).toNat, by omega, by omega⟩
        · exact ⟨cn, rfl, by omega⟩
      rw [e]
      exact hR _ _ ⟨wd, sG.trans s1, s1 _ _ hG, w4, rfl⟩
    rintro σ6 G6 ⟨wd, s6, h6, w4, rfl⟩
    refine seq_with (fun σ G' => ∃ (ns : List Int) (y : Option V), Same H G' ∧ G' p = some (.lst (ns.map V.int)) ∧ sdOk ns ∧ ¬ bigI ns ∧ ns.length ≤ 6 ∧ (∀ n ∈ ns, n ≤ 899) ∧ σ = [some (.ref a), some (.ref p), some (.int s), some (.int lf), y4, y5, y]) ?_ (fun R hR => ?_)
    · rintro σ7 G7 ⟨ns, y, s7, h7, g1, g2, g3, g4, rfl⟩
      wp_walk using rRepT
      exact ⟨_, .inl ⟨.of h7, fun l hl => q _ l ns (s7.trans (same_new hl _)) g1 g2 g3 g4 upd_same⟩⟩
    have ok := sides_ok (fl_in _ (by omega) s hs) pr b3 (show ls.length ≤ 5 by omega) w4
    have put : ∀ k : Int, 0 ≤ k → k ≤ ls.length → R [some (.ref a), some (.ref p), some (.int s), some (.int lf), y4, y5, some (.int wd)] (upd G6 p (.lst ((ls.map V.int).take k.toNat ++ .int (((wd : Int) + s - 1) / s) :: (ls.map V.int).drop k.toNat))) := fun k k0 k1 => by
      obtain ⟨g1, g2, g3, g4⟩ := ok.1 k.toNat
      refine hR _ _ ⟨ls.take k.toNat ++ (((wd : Int) + s - 1) / s) :: ls.drop k.toNat, _, same_put s6 hp, ?_, g1, g2, g3, g4, rfl⟩
      rw [upd_same, List.map_append, List.map_cons, List.map_take, List.map_drop]
    have a6 := s6.seq ha
    have e : ((ls.map V.int).length : Int) = ls.length := by rw [List.length_map]
    have m0 := Int.emod_nonneg (cellI rs 3 / 4) (show ((ls.map V.int).length : Int) + 1 ≠ 0 by omega)
    have m1 := Int.emod_lt_of_pos (cellI rs 3 / 4) (show 0 < ((ls.map V.int).length : Int) + 1 by omega)
    have m2 : cellI rs 3 / 4 % (((ls.map V.int).length : Int) + 1) ≤ ((ls.map V.int).length : Int) := by omega
    have P := put _ m0 (by rw [← e]; exact m2)
    have w : (ls.map V.int).length < sizeLine := by rw [List.length_map]; exact small1000 (by omega)
    wp_walk using rRepT, splawat
    refine ⟨rs, 3, rfl, a6, ?_⟩
    split
    · exact ⟨.inl ⟨_, .of h6⟩, rs, 3, rfl, a6, _, .inl (.of h6), by omega, by omega, by omega, _, h6, m0, m2, w, P⟩
    split
    · exact ⟨.inl ⟨_, .of h6⟩, rs, 3, rfl, a6, _, .inl (.of h6), by omega, by omega, by omega, _, h6, m0, m2, w, P⟩
    refine ⟨_, .inl (.of h6), ?_⟩
    split
    · exact ⟨.inl ⟨_, .of h6⟩, rs, 3, rfl, a6, _, .inl (.of h6), by omega, by omega, by omega, _, h6, m0, m2, w, P⟩
    · exact hR _ _ ⟨ls, _, s6, h6, ok.2.1, ok.2.2.1, ok.2.2.2.1, ok.2.2.2.2, rfl⟩
end
abbrev slawcells : Stmt := top 32
def splawcells : Sp := fun vs H Q _ => ∃ (ta sa ca : Addr) (ns cs : List Int), vs = [.ref ta, .ref sa, .ref ca] ∧ TbAt H ta ns (cs.map wrapI) ∧ H sa = some (.tup (ns.map V.int)) ∧ H ca = some (.lst (cs.map V.int)) ∧ sdOk ns ∧ ns.length ≤ 6 ∧ (cs.length : Int) = prodI ns ∧ prodI ns ≤ 512 ∧ (∀ n ∈ ns, n ≤ 899) ∧ ∀ H', Same H H' → Q (.bl true) H'
section
variable {P : Program} {w : World} {K : PySem.W.Frag} {mg : Str → Option Value} {base : Heap} {f : Addr} {fd : FuncData}
theorem sclawcells : FnScope ["tab", "sides", "cells", "places", "flat", "k", "total", "one", "side"] ["tab", "sides", "cells"] (defScope slawcells) := ⟨rfl, rfl, rfl, by decide +kernel, rfl, by decide +kernel, by decide +kernel⟩
theorem oklawcells (F : Fun K "_law_cells" "_law_cells" slawcells f fd) {CNoPlace : Addr} (nNoPlace : PySem.W.nsIn K mainGlobals "NoPlace" = some (some (.ref CNoPlace))) (callat : Callee P w K mg base CX0 (11) "all_at" ["sides"] spallat) (cnested : Callee P w K mg base CX0 (11) "nested" ["tab"] (spnested 8)) (clawflat : Callee P w K mg base CX0 (11) "_law_flat" ["thing", "sides"] (splawflat 8)) (clawheld : Callee P w K mg base CX0 (11) "_law_held" ["found", "due"] splawheld) (ccellat : Callee P w K mg base (CX1 P w) (11) "cell_at" ["tab", "at"] (spcellat CNoPlace)) (zisinstance : mg "isinstance" = none) (ztuple : mg "tuple" = none) (zlist : mg "list" = none) (zint : mg "int" = none) (zbool : mg "bool" = none) (zlen : mg "len" = none) (zrange : mg "range" = none) (zzip : mg "zip" = none) : FnOk P w K mg base CX0 (12) f fd ["tab", "sides", "cells"] (splawcells) := by
  have sc := sclawcells
  refine F.ok sc (fun vs H Q E h => ?_) (fun cdv A outer s H vs Q E hr h => ?_)
  · obtain ⟨ta, sa, ca, ns, cs, rfl, _⟩ := h; rfl
  obtain ⟨ta, sa, ca, ns, cs, rfl, ht, ha, hc, hs, h6, cl, p5, b, q⟩ := h
  refine ⟨_, (pss_cons (ps_if (pw_or (pt_not (pt_val (pe_callB call_isiTT (by rfl) zisinstance boot_isinstance (pa_cons (pv 0) (pa_cons (pe_bltn (v := .ty "tuple") (by rfl) ztuple boot_tuple rfl) pa_nil))))) (pw_or (pt_cmpR op_ne (pe_callB call_len_seq (by rfl) zlen PySem.boot_len (pa_cons (pv 0) pa_nil)) pe_int (nomark _)) (pw_or (pt_not (pt_val (pe_callB call_isiTT (by rfl) zisinstance boot_isinstance (pa_cons (pe_ix ix_tupH (pv 0) pe_int (fun _ _ => rfl)) (pa_cons (pe_bltn (v := .ty "tuple") (by rfl) ztuple boot_tuple rfl) pa_nil))))) (pw_or1 (pt_cmpR (op_neT hr.units0) (pe_ix ix_tupH (pv 0) pe_int (fun _ _ => rfl)) (pv 1) (nomark _)))))).pt (pss_one (ps_ret pe_bl)) pss_nil) (pss_cons (ps_if (pw_or (pt_not (pt_val (pe_callB call_isiTT (by rfl) zisinstance boot_isinstance (pa_cons (pe_ix ix_tupH (pv 0) pe_int (fun _ _ => rfl)) (pa_cons (pe_bltn (v := .ty "tuple") (by rfl) ztuple boot_tuple rfl) pa_nil))))) (pw_or1 (pt_cmpR op_ne (pe_callB call_len_seq (by rfl) zlen PySem.boot_len (pa_cons (pe_ix ix_tupH (pv 0) pe_int (fun _ _ => rfl)) pa_nil)) (pe_callB call_len_seq (by rfl) zlen PySem.boot_len (pa_cons (pv 2) pa_nil)) (nomark _)))).pt (pss_one (ps_ret pe_bl)) pss_nil) (pss_cons (ps_set (i := 3) sc.nd rfl (by first | exact Or.inl rfl | exact Or.inr rfl) (pe_cal callat hr (by rfl) pass0 (pa_cons (pv 1) pa_nil))) (pss_cons (ps_if (pw_or (pt_not (pt_val (pe_callB call_isiLL (by rfl) zisinstance boot_isinstance (pa_cons (pv 3) (pa_cons (pe_bltn (v := .ty "list") (by rfl) zlist boot_list rfl) pa_nil))))) (pw_or1 (pt_cmpR op_ne (pe_callB call_len_seq (by rfl) zlen PySem.boot_len (pa_cons (pv 3) pa_nil)) (pe_callB call_len_seq (by rfl) zlen PySem.boot_len (pa_cons (pv 2) pa_nil)) (nomark _)))).pt (pss_one (ps_ret pe_bl)) pss_nil) (pss_cons (ps_set (i := 4) sc.nd rfl (by first | exact Or.inl rfl | exact Or.inr rfl) (pe_cal clawflat hr (by rfl) pass0 (pa_cons (pe_cal cnested hr (by rfl) pass0 (pa_cons (pv 0) pa_nil)) (pa_cons (pv 1) pa_nil)))) (pss_cons (ps_if (pw_or (pt_cmpR op_isN (pv 4) pe_non (nomark _)) (pw_or1 (pt_cmpR op_ne (pe_callB call_len_seq (by rfl) zlen PySem.boot_len (pa_cons (pv 4) pa_nil)) (pe_callB call_len_seq (by rfl) zlen PySem.boot_len (pa_cons (pv 2) pa_nil)) (nomark _)))).pt (pss_one (ps_ret pe_bl)) pss_nil) (pss_cons (ps_for PassesOwn.never rfl (pi_range1 (by rfl) zrange (pa_cons (pe_callB call_len_seq (by rfl) zlen PySem.boot_len (pa_cons (pv 2) pa_nil)) pa_nil)) (pg_name (i := 5) sc.nd rfl (Or.inl rfl)) (pss_cons (ps_if (pw_or (pt_not (pt_val (pe_cal clawheld hr (by rfl) pass0 (pa_cons (pe_ix ix_tupH (pe_ix ix_tupH (pv 0) pe_int (fun _ _ => rfl)) (pv 5) (fun _ _ => rfl)) (pa_cons (pe_ix ix_listH (pv 2) (pv 5) (fun _ _ => rfl)) pa_nil))))) (pw_or1 (pt_not (pt_val (pe_cal clawheld hr (by rfl) pass0 (pa_cons (pe_ix ix_listH (pv 4) (pv 5) (fun _ _ => rfl)) (pa_cons (pe_ix ix_listH (pv 2) (pv 5) (fun _ _ => rfl)) pa_nil))))))).pt (pss_one (ps_ret pe_bl)) pss_nil) (pss_cons (ps_set (i := 6) sc.nd rfl (by first | exact Or.inl rfl | exact Or.inr rfl) pe_int) (pss_cons (ps_if (pw_or (pt_not (pt_val (pe_callB call_isiTT (by rfl) zisinstance boot_isinstance (pa_cons (pe_ix ix_listH (pv 3) (pv 5) (fun _ _ => rfl)) (pa_cons (pe_bltn (v := .ty "tuple") (by rfl) ztuple boot_tuple rfl) pa_nil))))) (pw_or1 (pt_cmpR op_ne (pe_callB call_len_seq (by rfl) zlen PySem.boot_len (pa_cons (pe_ix ix_listH (pv 3) (pv 5) (fun _ _ => rfl)) pa_nil)) (pe_callB call_len_seq (by rfl) zlen PySem.boot_len (pa_cons (pv 1) pa_nil)) (nomark _)))).pt (pss_one (ps_ret pe_bl)) pss_nil) (pss_cons (ps_for PassesOwn.never rfl (pi_zip (by rfl) zzip (pa_cons (pe_ix ix_listH (pv 3) (pv 5) (fun _ _ => rfl)) (pa_cons (pv 1) pa_nil))) (pg_tupH (n := 2) (pg_tup rfl (pgs_cons (pg_name (i := 7) sc.nd rfl (Or.inl rfl)) (pgs_cons (pg_name (i := 8) sc.nd rfl (Or.inl rfl)) pgs_nil)))) (pss_cons (ps_if (pw_or (pt_val (pe_callB call_isiS (by rfl) zisinstance boot_isinstance (pa_cons (pv 7) (pa_cons (pe_bltn (v := .ty "bool") (by rfl) zbool boot_bool rfl) pa_nil)))) (pw_or (pt_not (pt_val (pe_callB call_isiS (by rfl) zisinstance boot_isinstance (pa_cons (pv 7) (pa_cons (pe_bltn (v := .ty "int") (by rfl) zint boot_int rfl) pa_nil))))) (pw_or (pt_cmpR op_lt (pv 7) pe_int (nomark _)) (pw_or1 (pt_cmpR op_ge (pv 7) (pv 8) (nomark _)))))).pt (pss_one (ps_ret pe_bl)) pss_nil) (pss_one (ps_set (i := 6) sc.nd rfl (by first | exact Or.inl rfl | exact Or.inr rfl) (pe_op op_add (pe_op op_mul (pv 6) (pv 8)) (pv 7)))))) (pss_one (ps_if (pw_or (pt_cmpR op_ne (pv 6) (pv 5) (nomark _)) (pw_or1 (pt_not (pt_val (pe_cal clawheld hr (by rfl) pass0 (pa_cons (pe_cal ccellat hr (by rfl) passNo (pa_cons (pv 0) (pa_cons (pe_ix ix_listH (pv 3) (pv 5) (fun _ _ => rfl)) pa_nil))) (pa_cons (pe_ix ix_listH (pv 2) (pv 5) (fun _ _ => rfl)) pa_nil))))))).pt (pss_one (ps_ret pe_bl)) pss_nil))))))) (pss_one (ps_ret pe_bl))))))))), ?_⟩
  simp only [L2.start, List.length_cons, List.length_nil, List.replicate, List.cons_append, List.nil_append, Nat.reduceSub, Nat.reduceAdd, List.map_cons, List.map_nil]
  obtain ⟨sb, cb, t1, t2, t3⟩ := ht
  refine seq_with (fun σ G => G = H ∧ σ = [some (.ref ta), some (.ref sa), some (.ref ca), none, none, none, none, none, none]) ?_ (fun R hR => ?_)
  rotate_left
  · wp_walk using rRepT
    refine ⟨_, t1, _, .inr (.of t1), ?_⟩
    rw [if_neg (fun z => z rfl)]
    refine ⟨_, t1, _, atI_nat (j := 0) rfl, _, rfl, _, t2, _, t1, _, atI_nat (j := 0) rfl, _, rfl, _, .of t2, _, .of ha, flat_ints _, flat_ints _, ?_⟩
    rw [eqVs_ints, if_neg (by simp)]
    exact hR _ _ ⟨rfl, rfl⟩
  rintro σ1 G1 ⟨rfl, rfl⟩
  refine seq_with (fun σ G => G = G1 ∧ σ = [some (.ref ta), some (.ref sa), some (.ref ca), none, none, none, none, none, none]) ?_ (fun R hR => ?_)
  rotate_left
  · wp_walk using rRepT
    refine ⟨_, t1, _, atI_nat (j := 1) rfl, _, rfl, _, t3, _, t1, _, atI_nat (j := 1) rfl, _, rfl, _, .inr (.of t3), _, .inl (.of hc), ?_⟩
    rw [if_neg (fun z => z (by simp))]
    exact hR _ _ ⟨rfl, rfl⟩
  rintro σ2 G2 ⟨rfl, rfl⟩
  refine seq_with (fun σ G => ∃ l ps, Same G2 G ∧ G l = some (.lst (List.map V.ref ps)) ∧ TpsAt G ps (allD ns) ∧ σ = [some (.ref ta), some (.ref sa), some (.ref ca), some (.ref l), none, none, none, none, none]) ?_ (fun R hR => ?_)
  rotate_left
  · wp_walk using rRepT, spallat
    exact ⟨ns, ha, hs, by omega, p5, fun G l ps s _ hl tp => hR _ _ ⟨l, ps, s, hl, tp, rfl⟩⟩
  rintro σ3 G3 ⟨l, ps, s3, hl, tp, rfl⟩
  have pl : ps.length = cs.length := by have := tp.1; rw [all_len] at this; omega
  refine seq_with (fun σ G => G = G3 ∧ σ = [some (.ref ta), some (.ref sa), some (.ref ca), some (.ref l), none, none, none, none, none]) ?_ (fun R hR => ?_)
  rotate_left
  · wp_walk using rRepT
    refine ⟨_, hl, _, .inl (.of hl), _, .inl (.of (s3 _ _ hc)), ?_⟩
    rw [if_neg (fun z => z (by simp [pl]))]
    exact hR _ _ ⟨rfl, rfl⟩
  rintro σ4 G4 ⟨rfl, rfl⟩
  refine seq_with (fun σ G => ∃ f, Same G4 G ∧ G f = some (.lst ((cs.map wrapI).map V.int)) ∧ σ = [some (.ref ta), some (.ref sa), some (.ref ca), some (.ref l), some (.ref f), none, none, none, none]) ?_ (fun R hR => ?_)
  rotate_left
  · wp_walk using rRepT, spnested, splawflat
    refine ⟨ns, cs.map wrapI, ⟨sb, cb, s3 _ _ t1, s3 _ _ t2, s3 _ _ t3⟩, hs, by omega, by omega, by rw [List.length_map]; exact cl, by rw [List.length_map]; omega, b, fun G v s nv => ?_⟩
    exact ⟨ns, cs.map wrapI, G4, nv, s _ _ (s3 _ _ ha), hs, by omega, by rw [List.length_map]; exact cl, by rw [List.length_map]; omega, b, fun G' p s' hp => hR _ _ ⟨p, s.trans s', hp, rfl⟩⟩
  rintro σ5 G5 ⟨f5, s5, hf, rfl⟩
  have s05 := s3.trans s5
  have hc5 := s05 _ _ hc
  refine seq_with (fun σ G => G = G5 ∧ σ = [some (.ref ta), some (.ref sa), some (.ref ca), some (.ref l), some (.ref f5), none, none, none, none]) ?_ (fun R hR => ?_)
  rotate_left
  · wp_walk using rRepT
    rw [if_neg (fun z => by cases z)]
    refine ⟨_, .inl (.of hf), _, .inl (.of hc5), ?_⟩
    rw [if_neg (fun z => z (by simp))]
    exact hR _ _ ⟨rfl, rfl⟩
  rintro σ6 G6 ⟨rfl, rfl⟩
  have t16 := s05 _ _ t1
  have t36 := s05 _ _ t3
  have ha6 := s05 _ _ ha
  have hl6 := s5 _ _ hl
  have tp6 := tp.mono fun b xs e => s5 _ _ e
  refine seq_with (fun σ G => Same G6 G) (fun σ G sG => ?_) (fun R hR => ?_)
  · wp_walk using rRepT
    exact q _ (s05.trans sG)
  wp_walk using rRepT
  refine ⟨_, .inl (.of hc5), by rw [len_map]; omega, by rw [len_map]; omega, ?_⟩
  rw [len_map, Int.toNat_natCast]
  refine LoopR.mk (fun j σ G => Same G6 G ∧ ∃ y5 y6 y7 y8, σ = [some (.ref ta), some (.ref sa), some (.ref ca), some (.ref l), some (.ref f5), y5, y6, y7, y8]) ⟨Same.refl _, _, _, _, _, rfl⟩ (fun j σ G hj h => ?_) (fun σ G h => hR _ _ h.1)
  obtain ⟨sG, y5, y6, y7, y8, rfl⟩ := h
  dsimp only [gName, List.set_cons_succ, List.set_cons_zero]
  have eJ : (0 : Int) + (j : Int) = (j : Int) := Int.zero_add _
  rw [eJ]
  have j5 : (j : Int) < prodI ns := by omega
  have gA := atD_good hs (nat0' j) j5
  obtain ⟨pj, ej, hpj⟩ := tp6.2 j _ (all_get (ns := ns) (i := j) (by omega))
  have ec : cs[j]? = some (cs.getD j 0) := get_some hj
  have ew : (cs.map wrapI)[j]? = some (wrapI (cs.getD j 0)) := by rw [List.getElem?_map, ec]; rfl
  refine seq_with (fun σ G' => G' = G ∧ σ = [some (.ref ta), some (.ref sa), some (.ref ca), some (.ref l), some (.ref f5), some (.int j), y6, y7, y8]) ?_ (fun R hR => ?_)
  rotate_left
  · wp_walk using rRepT, splawheld
    have i1 : atI ((cs.map wrapI).map V.int) (j : Int) = some (.int (wrapI (cs.getD j 0))) := atI_nat (by rw [List.getElem?_map, ew]; rfl)
    have i2 : atI (cs.map V.int) (j : Int) = some (.int (cs.getD j 0)) := atI_nat (by rw [List.getElem?_map, ec]; rfl)
    exact ⟨_, sG _ _ t16, _, atI_nat (j := 1) rfl, _, rfl, _, sG _ _ t36, _, i1, _, sG _ _ hc5, _, i2, _, rfl, _, rfl, rfl, _, sG _ _ hf, _, i1, _, sG _ _ hc5, _, i2, _, rfl, _, rfl, rfl, hR _ _ ⟨rfl, rfl⟩⟩
  rintro σ7 G7 ⟨rfl, rfl⟩
  refine seq_with (fun σ G' => G' = G7 ∧ σ = [some (.ref ta), some (.ref sa), some (.ref ca), some (.ref l), some (.ref f5), some (.int j), some (.int 0), y7, y8]) ?_ (fun R hR => ?_)
  rotate_left
  · wp_walk using rRepT
    exact hR _ _ ⟨rfl, rfl⟩
  rintro σ8 G8 ⟨rfl, rfl⟩
  have hp8 := sG _ _ hpj
  have ha8 := sG _ _ ha6
  have hl8 := sG _ _ hl6
  have il : atI (ps.map V.ref) (j : Int) = some (.ref pj) := atI_nat (by rw [List.getElem?_map, ej]; rfl)
  refine seq_with (fun σ G' => G' = G8 ∧ σ = [some (.ref ta), some (.ref sa), some (.ref ca), some (.ref l), some (.ref f5), some (.int j), some (.int 0), y7, y8]) ?_ (fun R hR => ?_)
  rotate_left
  · wp_walk using rRepT
    refine ⟨_, hl8, _, il, _, rfl, _, hp8, _, hl8, _, il, _, rfl, _, .inr (.of hp8), _, .inr (.of ha8), ?_⟩
    rw [if_neg (fun z => z (by rw [len_map, len_map, gA.1]))]
    exact hR _ _ ⟨rfl, rfl⟩
  rintro σ9 G9 ⟨rfl, rfl⟩
  refine seq_with (fun σ G' => Same G9 G' ∧ ∃ y7 y8, σ = [some (.ref ta), some (.ref sa), some (.ref ca), some (.ref l), some (.ref f5), some (.int j), some (.int j), y7, y8]) ?_ (fun R hR => ?_)
  rotate_left
  · wp_walk using rRepT
    refine ⟨_, hl8, _, il, ?_⟩
    refine LoopZ.mk (xs := (atD ns j).map V.int) (ys := ns.map V.int) ns.length (by rw [len_map, len_map, gA.1, Nat.min_self]) (.of hp8) (.of ha8) (fun i σ G' => Same G9 G' ∧ ∃ y7 y8, σ = [some (.ref ta), some (.ref sa), some (.ref ca), some (.ref l), some (.ref f5), some (.int j), some (.int (plH (ns.take i) ((atD ns j).take i))), y7, y8]) ⟨Same.refl _, _, _, rfl⟩ (fun i σ G' _ h => ⟨.of (h.1 _ _ hp8), .of (h.1 _ _ ha8)⟩) (fun i x y σ G' T hi ex ey h hT => ?_) (fun σ G' h => ?_)
    · obtain ⟨s1, z7, z8, rfl⟩ := h
      obtain ⟨m, rfl, hm⟩ := int_at ex
      obtain ⟨n, rfl, hn, n0, n1⟩ := sd_at hs ey
      have g := gA.2 i m n hm hn
      wp_walk using rRepT
      rw [if_neg (by omega), if_neg (by omega), ← plH_take gA.1 hn hm]
      exact ⟨.inr ⟨by omega, by omega⟩, s1.trans (same_new hT _), rfl, _, rfl⟩
    · obtain ⟨s1, z7, z8, rfl⟩ := h
      refine hR _ _ ⟨s1, z7, z8, ?_⟩
      rw [List.take_length, List.take_of_length_le (Nat.le_of_eq gA.1), plH_at hs (nat0' j) j5]
  rintro σa Ga ⟨sa9, z7, z8, rfl⟩
  have sGa := sG.trans sa9
  wp_walk using rRepT, spcellat, splawheld
  have i2 : atI (cs.map V.int) (j : Int) = some (.int (cs.getD j 0)) := atI_nat (by rw [List.getElem?_map, ec]; rfl)
  have ev : (cs.map wrapI).getD (plH ns (atD ns j)).toNat 0 = wrapI (cs.getD j 0) := by rw [plH_at hs (nat0' j) j5, Int.toNat_natCast, List.getD_eq_getElem?_getD, ew]; rfl
  exact ⟨_, sGa _ _ hl6, _, il, _, rfl, ns, cs.map wrapI, ⟨sb, cb, sGa _ _ t16, sGa _ _ (s05 _ _ t2), sGa _ _ t36⟩, atD ns j, sGa _ _ hpj, hs, by omega, by rw [gA.1]; omega, by rw [List.length_map]; exact cl, fun z => absurd gA z, fun _ G' s' => ⟨_, s' _ _ (sGa _ _ hc5), _, i2, _, rfl, ev, sGa.trans s', _, rfl⟩⟩
end
abbrev slawstrange : Stmt := top 33
def splawstrange : Sp := fun vs H Q _ => ∃ (ta sa : Addr) (ns cs : List Int) (dr : Int), vs = [.ref ta, .ref sa, .int dr] ∧ TbAt H ta ns cs ∧ H sa = some (.tup (ns.map V.int)) ∧ sdOk ns ∧ ns.length ≤ 6 ∧ (cs.length : Int) = prodI ns ∧ ∀ H', Same H H' → Q (.bl true) H'
section
variable {P : Program} {w : World} {K : PySem.W.Frag} {mg : Str → Option Value} {base : Heap} {f : Addr} {fd : FuncData}
theorem sclawstrange : FnScope ["tab", "sides", "drawn", "asked", "k", "at"] ["tab", "sides", "drawn"] (defScope slawstrange) := ⟨rfl, rfl, rfl, by decide +kernel, rfl, by decide +kernel, by decide +kernel⟩
theorem oklawstrange (F : Fun K "_law_strange" "_law_strange" slawstrange f fd) (clawnocell : Callee P w K mg base CX0 (4) "_law_no_cell" ["tab", "at"] splawnocell) (zlen : mg "len" = none) (zrange : mg "range" = none) (ztuple : mg "tuple" = none) (zmax : mg "max" = none) : FnOk P w K mg base CX0 (5) f fd ["tab", "sides", "drawn"] (splawstrange) := by
  have sc := sclawstrange
  refine F.ok sc (fun vs H Q E h => ?_) (fun cdv A outer s H vs Q E hr h => ?_)
  · obtain ⟨ta, sa, ns, cs, dr, rfl, _⟩ := h; rfl
  obtain ⟨ta, sa, ns, cs, dr, rfl, ht, ha, hs, h6, cl, q⟩ := h
  refine ⟨_, (pss_cons (ps_set (i := 3) sc.nd rfl (by first | exact Or.inl rfl | exact Or.inr rfl) (pe_lst (pa_cons (pe_op op_catS (pv 1) (pe_tup (pa_cons pe_int pa_nil))) (pa_cons (pv 1) pa_nil)))) (pss_cons (ps_if (pt_cmpR op_eq (pe_callB call_len_seq (by rfl) zlen PySem.boot_len (pa_cons (pv 1) pa_nil)) pe_int (nomark _)) (pss_one (ps_set (i := 3) sc.nd rfl (by first | exact Or.inl rfl | exact Or.inr rfl) (pe_lst (pa_cons (pe_tup (pa_cons pe_int pa_nil)) pa_nil)))) pss_nil) (pss_cons (ps_for PassesOwn.never rfl (pi_range1 (by rfl) zrange (pa_cons (pe_callB call_len_seq (by rfl) zlen PySem.boot_len (pa_cons (pv 1) pa_nil)) pa_nil)) (pg_name (i := 4) sc.nd rfl (Or.inl rfl)) (pss_cons (ps_set (i := 5) sc.nd rfl (by first | exact Or.inl rfl | exact Or.inr rfl) (pe_callTy call_tuple_of (by rfl) ztuple boot_tuple (pa_cons (pe_comp (own := ["j"]) (fv := ["drawn", "sides"]) (js := [2, 1]) rfl (pi_range1 (by rfl) zrange (pa_cons (pe_callB call_len_seq (by rfl) zlen PySem.boot_len (pa_cons (pv 1) pa_nil)) pa_nil)) rfl (by decide) rfl (by decide) (by first | exact fun _ _ h => h | exact cl_sub1 rfl | exact cl_sub2 rfl rfl | exact cl_sub3 rfl rfl rfl) (has_of (by rfl)) rfl (cap2 (by first | exact ⟨rfl, .inl rfl, .inl rfl⟩ | exact ⟨rfl, .inl rfl, .inr rfl⟩) (by first | exact ⟨rfl, .inl rfl, .inl rfl⟩ | exact ⟨rfl, .inl rfl, .inr rfl⟩)) (fun _ _ _ _ => (pg_name (i := 0) (show (["j", "drawn", "sides"] : List Str).Nodup by decide +kernel) rfl (Or.inl rfl))) (fun _ _ _ _ => (pe_op op_mod (pe_op op_fdiv (pv 1) (pe_op op_add (pv 0) pe_int)) (pe_callB (call_max2 rfl) (by rfl) zmax boot_max (pa_cons pe_int (pa_cons (pe_ix ix_tupH (pv 2) (pv 0) (fun _ _ => rfl)) pa_nil)))))) pa_nil))) (pss_cons (ps_set (i := 3) sc.nd rfl (by first | exact Or.inl rfl | exact Or.inr rfl) (pe_op op_catL (pv 3) (pe_lst (pa_cons (pe_op op_catS (pv 5) (pe_tup (pa_cons pe_int pa_nil))) (pa_cons (pe_slice sl_tupA (pv 5) (po_some pe_int) po_none) (pa_cons (pe_op op_catS (pe_op op_catS (pe_slice sl_tupA (pv 5) po_none (po_some (pv 4))) (pe_tup (pa_cons (pe_ix ix_tupH (pv 1) (pv 4) (fun _ _ => rfl)) pa_nil))) (pe_slice sl_tupA (pv 5) (po_some (pe_op op_add (pv 4) pe_int)) po_none)) (pa_cons (pe_op op_catS (pe_op op_catS (pe_slice sl_tupA (pv 5) po_none (po_some (pv 4))) (pe_tup (pa_cons (pe_un un_neg pe_int) pa_nil))) (pe_slice sl_tupA (pv 5) (po_some (pe_op op_add (pv 4) pe_int)) po_none)) pa_nil))))))) (pss_one (ps_expr (pe_app (pv 3) (pe_op op_catS (pe_op op_catS (pe_callTy call_tuple_of (by rfl) ztuple boot_tuple (pa_cons (pe_comp0 (own := ["side"]) rfl (pi_tup (pe_slice sl_tupA (pv 1) po_none (po_some (pv 4)))) (by decide) (by decide) rfl (by decide) (fun _ _ _ _ => (pg_name (i := 0) (show (["side"] : List Str).Nodup by decide +kernel) rfl (Or.inl rfl))) (fun _ _ _ _ => (pe_op op_sub (pv 0) pe_int))) pa_nil)) (pe_tup (pa_cons (pe_op op_add (pe_ix ix_tupH (pv 1) (pv 4) (fun _ _ => rfl)) (pe_op op_mod (pv 2) pe_int)) pa_nil))) (pe_op op_repT (pe_tup (pa_cons pe_int pa_nil)) (pe_op op_sub (pe_op op_sub (pe_callB call_len_seq (by rfl) zlen PySem.boot_len (pa_cons (pv 1) pa_nil)) pe_int) (pv 4)))))))))) (pss_cons (ps_for PassesOwn.never rfl (pi_list (pv 3)) (pg_name (i := 5) sc.nd rfl (Or.inl rfl)) (pss_one (ps_if (pt_not (pt_val (pe_cal clawnocell hr (by rfl) pass0 (pa_cons (pv 0) (pa_cons (pv 5) pa_nil))))) (pss_one (ps_ret pe_bl)) pss_nil))) (pss_one (ps_ret pe_bl)))))), ?_⟩
  simp only [L2.start, List.length_cons, List.length_nil, List.replicate, List.cons_append, List.nil_append, Nat.reduceSub, Nat.reduceAdd, List.map_cons, List.map_nil]
  refine seq_with (fun σ G => ∃ l r1 r2, Same H G ∧ G l = some (.lst [.ref r1, .ref r2]) ∧ H l = none ∧ G r1 = some (.tup ((ns ++ [0]).map V.int)) ∧ G r2 = some (.tup (ns.map V.int)) ∧ σ = [some (.ref ta), some (.ref sa), some (.int dr), some (.ref l), none, none]) ?_ (fun R hR => ?_)
  rotate_left
  · wp_walk using rRepT
    refine ⟨small (by decide), fun p hp => ⟨_, same_new hp _ _ _ ha, by rw [len_map]; exact small (by omega), fun r G s hr => ⟨small (by decide), fun l hl => ?_⟩⟩⟩
    have s0 := (same_new hp (.tup [V.int 0])).trans s
    refine hR _ _ ⟨l, r, sa, s0.trans (same_new hl _), upd_same, same_none s0 hl, ?_, same_new hl _ _ _ (s0 _ _ ha), rfl⟩
    rw [same_new hl _ _ _ hr, List.map_append]; rfl
  rintro σ1 G1 ⟨l1, r1, r2, s1, hl1, f1, h1, h2, rfl⟩
  refine seq_with (fun σ G => ∃ l, Same H G ∧ H l = none ∧ askOk ns G l 2 ∧ σ = [some (.ref ta), some (.ref sa), some (.int dr), some (.ref l), none, none]) ?_ (fun R hR => ?_)
  rotate_left
  · wp_walk using rRepT
    refine ⟨_, .inr (.of (s1 _ _ ha)), ?_⟩
    rw [len_map]
    cases ns with
    | nil =>
      rw [if_pos (show ((([] : List Int).length : Nat) : Int) = 0 from rfl)]
      refine ⟨small (by decide), fun p hp => ⟨small (by decide), fun l hl => hR _ _ ⟨l, s1.trans ((same_new hp _).trans (same_new hl _)), same_none (s1.trans (same_new hp _)) hl, ?_, rfl⟩⟩⟩
      exact ask_add (ps := []) (rs := [p]) all_nil (all_cons (bad_len (ms := [0]) upd_same (by decide) (by decide)) all_nil) (by simp only [List.length_cons, List.length_nil]; omega) hl
    | cons n ns =>
      rw [if_neg (fun z => by rw [List.length_cons] at z; omega)]
      refine hR _ _ ⟨l1, s1, f1, ⟨[r1, r2], hl1, Nat.le_refl _, all_cons (bad_len h1 ?_ ?_) (all_cons ⟨_, h2, ?_, not_self⟩ all_nil)⟩, rfl⟩
      · rw [List.length_append, List.length_singleton]; omega
      · rw [List.length_append, List.length_singleton]; omega
      · omega
  rintro σ2 G2 ⟨l2, s2, f2, ask2, rfl⟩
  refine seq_with (fun σ G => ∃ l y4 y5, Same H G ∧ H l = none ∧ askOk ns G l 99 ∧ σ = [some (.ref ta), some (.ref sa), some (.int dr), some (.ref l), y4, y5]) ?_ (fun R hR => ?_)
  rotate_left
  · wp_walk using rRepT
    refine ⟨_, .inr (.of (s2 _ _ ha)), by rw [len_map]; omega, by rw [len_map]; omega, ?_⟩
    rw [len_map, Int.toNat_natCast]
    refine LoopR.mk (fun i σ G => ∃ l y4 y5, Same H G ∧ H l = none ∧ askOk ns G l (2 + 5 * i) ∧ σ = [some (.ref ta), some (.ref sa), some (.int dr), some (.ref l), y4, y5]) ⟨_, _, _, s2, f2, ask2, rfl⟩ (fun i σ G hi h => ?_) (fun σ G h => ?_)
    · obtain ⟨l, y4, y5, sG, fl, ask, rfl⟩ := h
      dsimp only [gName, List.set_cons_succ, List.set_cons_zero]
      rw [show (0 : Int) + (i : Int) = (i : Int) from Int.zero_add _]
      refine seq_with (fun σ G' => ∃ (b : Addr) (A : List Int), Same G G' ∧ G' b = some (.tup (A.map V.int)) ∧ A.length = ns.length ∧ σ = [some (.ref ta), some (.ref sa), some (.int dr), some (.ref l), some (.int i), some (.ref b)]) ?_ (fun R hR => ?_)
      rotate_left
      · wp_walk using rRepT
        refine ⟨_, .inr (.of (sG _ _ ha)), by rw [len_map]; omega, by rw [len_map]; omega, ?_⟩
        rw [len_map, Int.toNat_natCast]
        refine CompR.mk (fun j ys σ G' => G' = G ∧ (∃ L : List Int, ys = L.map V.int ∧ L.length = j) ∧ ∃ y, σ = [y, some (.int dr), some (.ref sa)]) ⟨rfl, ⟨[], rfl, rfl⟩, _, rfl⟩ (fun j ys σ G' hj h => ?_) (fun ys σ G' h b hb => ?_)
        · obtain ⟨rfl, ⟨L, rfl, lj⟩, y, rfl⟩ := h
          have ei : atI (ns.map V.int) (j : Int) = some (.int ns[j]) := atI_nat (by simp [hj])
          wp_walk using rRepT, Int.zero_add
          exact ⟨by rw [List.length_map]; exact small1000 (by omega), by omega, by omega, _, sG _ _ ha, _, ei, _, rfl, by split <;> omega, ⟨L ++ [_], by rw [List.map_append]; rfl, by rw [List.length_append, lj]; rfl⟩, _, rfl⟩
        · obtain ⟨rfl, ⟨L, rfl, lj⟩, y, rfl⟩ := h
          exact ⟨b, rfl, _, .inl ⟨.of upd_same, fun b2 hb2 => hR _ _ ⟨b2, L, (same_new hb _).trans (same_new hb2 _), upd_same, lj, rfl⟩⟩⟩
      rintro σ4 G4 ⟨b, A, s4, hb, hA, rfl⟩
      obtain ⟨ps, e1, e2, e3⟩ := ask
      have sa4 := (sG.trans s4) _ _ ha
      have en : ns[i]? = some ns[i] := List.getElem?_eq_getElem hi
      have ei : atI (ns.map V.int) (i : Int) = some (.int ns[i]) := atI_nat (by rw [List.getElem?_map, en]; rfl)
      have ei1 : (i : Int) + 1 = ((i + 1 : Nat) : Int) := by omega
      have lt : (A.take i).length = i := by rw [List.length_take]; omega
      have ld : (A.drop (i + 1)).length = A.length - (i + 1) := List.length_drop
      refine seq_with (fun σ G' => ∃ l, Same G4 G' ∧ H l = none ∧ askOk ns G' l (6 + 5 * i) ∧ σ = [some (.ref ta), some (.ref sa), some (.int dr), some (.ref l), some (.int i), some (.ref b)]) ?_ (fun R hR => ?_)
      rotate_left
      · wp_walk using rRepT
        refine ⟨small (by decide), fun p hp => ⟨_, same_new hp _ _ _ hb, by rw [len_map]; exact small (by omega), fun r1 K1 k1 hr1 => ?_⟩⟩
        have t1 := (same_new hp (.tup [V.int 0])).trans k1
        refine ⟨_, t1 _ _ hb, fun r2 K2 k2 hr2 => ?_⟩
        have t2 := t1.trans k2
        refine ⟨_, t2 _ _ hb, fun r3 K3 k3 hr3 => ?_⟩
        have t3 := t2.trans k3
        rw [cut_any] at hr3
        refine ⟨_, t3 _ _ sa4, _, ei, small (by decide), fun p4 hp4 => ⟨_, same_new hp4 _ _ _ hr3, by rw [List.length_map]; exact small (by omega), fun r4 K4 k4 hr4 => ?_⟩⟩
        have t4 := t3.trans ((same_new hp4 (.tup [V.int ns[i]])).trans k4)
        refine ⟨_, t4 _ _ hb, fun r5 K5 k5 hr5 => ?_⟩
        have t5 := t4.trans k5
        rw [ei1, cut_anyH] at hr5
        refine ⟨_, k5 _ _ hr4, _, hr5, by simp only [List.length_append, List.length_map, List.length_cons, List.length_nil]; exact small (by omega), fun r6 K6 k6 hr6 => ?_⟩
        have t6 := t5.trans k6
        refine ⟨_, t6 _ _ hb, fun r7 K7 k7 hr7 => ?_⟩
        have t7 := t6.trans k7
        rw [cut_any] at hr7
        refine ⟨small (by decide), fun p8 hp8 => ⟨_, same_new hp8 _ _ _ hr7, by rw [List.length_map]; exact small (by omega), fun r8 K8 k8 hr8 => ?_⟩⟩
        have k78 := (same_new hp8 (.tup [V.int (-1)])).trans k8
        have t8 := t7.trans k78
        refine ⟨_, t8 _ _ hb, fun r9 K9 k9 hr9 => ?_⟩
        rw [ei1, cut_anyH] at hr9
        refine ⟨_, k9 _ _ hr8, _, hr9, by simp only [List.length_append, List.length_map, List.length_cons, List.length_nil]; exact small (by omega), fun ra Ka ka hra => ?_⟩
        have t9 := t8.trans (k9.trans ka)
        have B1 : badAt ns K1 r1 := bad_len (ms := A ++ [0]) (by rw [hr1, List.map_append]; rfl) (by rw [List.length_append, List.length_singleton]; omega) (by rw [List.length_append, List.length_singleton]; omega)
        have B2 : badAt ns K2 r2 := bad_len (ms := A.drop 1) (by rw [hr2, show (some (1 : Int)) = some ((1 : Nat) : Int) from rfl, cut_anyH]) (by rw [List.length_drop]; omega) (by rw [List.length_drop]; omega)
        have B3 : badAt ns K6 r6 := bad_mid (L := A.take i) (o := ns[i]) (R := A.drop (i + 1)) (by rw [hr6, List.map_append, List.map_append]; rfl) (by omega) lt en (.inr (Int.le_refl _))
        have B4 : badAt ns Ka ra := bad_mid (L := A.take i) (o := -1) (R := A.drop (i + 1)) (by rw [hra, List.map_append, List.map_append]; rfl) (by omega) lt en (.inl (by decide))
        have k9a := k9.trans ka
        have k6a := k7.trans (k78.trans k9a)
        have k2a := k3.trans ((same_new hp4 (.tup [V.int ns[i]])).trans (k4.trans (k5.trans (k6.trans k6a))))
        refine ⟨small (by decide), fun pb hpb => ?_⟩
        have nb := same_new hpb (.lst [V.ref r1, V.ref r2, V.ref r6, V.ref ra])
        have t10 := t9.trans nb
        refine ⟨_, .of (t10 _ _ (s4 _ _ e1)), _, .of upd_same, small (by simp only [List.length_map, List.length_cons, List.length_nil]; omega), fun pc hpc => hR _ _ ⟨pc, t10.trans (same_new hpc _), same_none (sG.trans (s4.trans t10)) hpc, ?_, rfl⟩⟩
        exact ask_add (rs := [r1, r2, r6, ra]) (fun q hq => (show badAt ns G q from e3 q hq).up (s4.trans t10)) (all_cons (B1.up (k2.trans (k2a.trans nb))) (all_cons (B2.up (k2a.trans nb)) (all_cons (B3.up (k6a.trans nb)) (all_cons (B4.up nb) all_nil)))) (by simp only [List.length_cons, List.length_nil]; omega) hpc
      rintro σ5 G5 ⟨l5, s5, f5, ⟨ps5, e4, e5, e6⟩, rfl⟩
      wp_walk using rPopAt
      refine ⟨⟨_, e4⟩, _, s5 _ _ sa4, fun r K1 k1 hr => ?_⟩
      rw [cut_any] at hr
      have li : ((ns.take i).map V.int).length = i := by rw [List.length_map, List.length_take]; omega
      refine CompT.mk (xs := (ns.take i).map V.int) (.of hr) (fun j ys σ G => G = K1 ∧ (∃ L : List Int, ys = L.map V.int ∧ L.length = j) ∧ ∃ y, σ = [y]) ⟨rfl, ⟨[], rfl, rfl⟩, _, rfl⟩ (fun j ys σ G _ h => by rw [h.1]; exact .of hr) (fun j x ys σ G ex h => ?_) (fun ys σ G h p hp => ?_)
      · obtain ⟨rfl, ⟨L, rfl, lj⟩, y, rfl⟩ := h
        obtain ⟨m, rfl, hm⟩ := int_at ex
        have jl := (List.getElem?_eq_some_iff.mp ex).1
        wp_walk using rRepT
        exact ⟨by rw [List.length_map]; exact small1000 (by omega), ⟨L ++ [_], by rw [List.map_append]; rfl, by rw [List.length_append, lj]; rfl⟩, _, rfl⟩
      · obtain ⟨rfl, ⟨L, rfl, lj⟩, y, rfl⟩ := h
        rw [li] at lj
        refine ⟨p, rfl, _, .inl ⟨.of upd_same, fun l1 hl1 => ?_⟩⟩
        have k2 := (same_new hp (.lst (L.map V.int))).trans (same_new hl1 (.tup (L.map V.int)))
        have hl1' : upd (upd G p (.lst (L.map V.int))) l1 (.tup (L.map V.int)) l1 = some (.tup (L.map V.int)) := upd_same
        generalize upd (upd G p (.lst (L.map V.int))) l1 (.tup (L.map V.int)) = K2 at *
        have t2 := k1.trans k2
        have sa2 := t2 _ _ (s5 _ _ sa4)
        refine ⟨_, sa2, _, ei, _, rfl, small (by decide), fun p3 hp3 => ⟨_, same_new hp3 _ _ _ hl1', by rw [List.length_map]; exact small (by omega), fun r4 K4 k4 hr4 => ⟨small (by decide), fun p5 hp5 => ?_⟩⟩⟩
        have k24 := (same_new hp3 (.tup [V.int (ns[i] + dr % 5)])).trans k4
        have k5 := same_new hp5 (.tup [V.int 0])
        refine ⟨_, .inr (.of (k5 _ _ (k24 _ _ sa2))), ?_⟩
        rw [len_map, show (ns.length : Int) - 1 - (i : Int) = ((ns.length - 1 - i : Nat) : Int) by omega]
        refine repT0 upd_same (by omega) fun r6 K6 k6 hr6 => ?_
        have t6 := t2.trans (k24.trans (k5.trans k6))
        refine ⟨r6, rfl, _, k6 _ _ (k5 _ _ hr4), _, hr6, small (by simp only [List.length_append, List.length_map, List.length_cons, List.length_nil, rep0_len]; omega), fun r7 K7 k7 hr7 => ?_⟩
        have t7 := t6.trans k7
        exact ⟨_, t7 _ _ e4, by rw [List.length_map]; exact small1000 (by omega), same_put (sG.trans (s4.trans (s5.trans t7))) f5, l5, f5, ask_put (t7 _ _ e4) (fun q hq => (show badAt ns G5 q from e6 q hq).up t7) (bad_mid (L := L) (o := ns[i] + dr % 5) (R := rep0 (ns.length - 1 - i)) (by rw [hr7, List.map_append, List.map_append]; rfl) (by rw [rep0_len]; omega) lj en (.inr (by omega))) (by omega), rfl, _, rfl⟩
    · obtain ⟨l, y4, y5, sG, fl, ⟨ps, e1, e2, e3⟩, rfl⟩ := h
      exact hR _ _ ⟨l, _, _, sG, fl, ⟨ps, e1, by omega, e3⟩, rfl⟩
  rintro σ3 G3 ⟨l, y4, y5, s3, f3, ⟨ps, hl3, hc3, hps⟩, rfl⟩
  wp_walk using rRepT
  refine LoopL.mk (xs := ps.map V.ref) (.of hl3) (fun i σ G => Same G3 G ∧ ∃ y4 y5, σ = [some (.ref ta), some (.ref sa), some (.int dr), some (.ref l), y4, y5]) ⟨Same.refl _, _, _, rfl⟩ (fun i σ G _ h => .of (h.1 _ _ hl3)) (fun i x σ G e h => ?_) (fun σ G h => ?_)
  · obtain ⟨g1, y4, y5, rfl⟩ := h
    obtain ⟨p, hp, rfl⟩ := List.mem_map.mp (List.mem_of_getElem? e)
    obtain ⟨ms', z1, z2, z3⟩ := hps p hp
    wp_walk using rRepT, splawnocell
    exact ⟨ns, cs, ht.same (s3.trans g1), ms', g1 _ _ z1, hs, by omega, z2, cl, z3, fun G' s' => ⟨g1.trans s', _, rfl⟩⟩
  · obtain ⟨g1, y4, y5, rfl⟩ := h
    wp_walk using rRepT
    exact q _ (s3.trans g1)
end
abbrev slaw : Stmt := top 36
def splaw : PySem.W.Frag → Sp := fun K => fun vs H Q _ => ∃ (a : Addr) (rs : List Int), vs = [.ref a] ∧ SqL K H a (rs.map V.int) ∧ rs.length ≤ 63 ∧ ∀ H', Q (.bl true) H'
section
variable {P : Program} {w : World} {K : PySem.W.Frag} {mg : Str → Option Value} {base : Heap} {f : Addr} {fd : FuncData}
theorem sclaw : FnScope ["script", "sides", "size", "side", "cells", "handed", "tab", "lone"] ["script"] (defScope slaw) := ⟨rfl, rfl, rfl, by decide +kernel, rfl, by decide +kernel, by decide +kernel⟩
theorem oklaw (F : Fun K "law" "law" slaw f fd) {CTooLarge : Addr} (nTooLarge : PySem.W.nsIn K mainGlobals "TooLarge" = some (some (.ref CTooLarge))) {CUnlike : Addr} (nUnlike : PySem.W.nsIn K mainGlobals "Unlike" = some (some (.ref CUnlike))) (clawsides : Callee P w K mg base CX0 (12) "_law_sides" ["script"] (splawsides K)) (clawat : Callee P w K mg base CX0 (12) "_law_at" ["script", "k"] (splawat K)) (ctableof : Callee P w K mg base (CX1 P w) (12) "table_of" ["sides", "cells"] (sptableof CTooLarge CUnlike)) (clawcells : Callee P w K mg base CX0 (12) "_law_cells" ["tab", "sides", "cells"] splawcells) (clawstrange : Callee P w K mg base CX0 (12) "_law_strange" ["tab", "sides", "drawn"] splawstrange) (clawownlists : Callee P w K mg base CX0 (12) "_law_own_lists" ["tab", "sides", "size"] splawownlists) (calone : Callee P w K mg base CX0 (12) "alone" ["n"] spalone) (clawheld : Callee P w K mg base CX0 (12) "_law_held" ["found", "due"] splawheld) (cnested : Callee P w K mg base CX0 (12) "nested" ["tab"] (spnested 8)) (clawrefusal : Callee P w K mg base CX0 (12) "_law_refusal" ["sides", "cells"] splawrefusal) (zrange : mg "range" = none) (zlen : mg "len" = none) (zlist : mg "list" = none) (ztuple : mg "tuple" = none) (zisinstance : mg "isinstance" = none) : FnOk P w K mg base CX0 (13) f fd ["script"] (splaw K) := by
  have sc := sclaw
  refine F.ok sc (fun vs H Q E h => ?_) (fun cdv A outer s H vs Q E hr h => ?_)
  · obtain ⟨a, rs, rfl, _⟩ := h; rfl
  obtain ⟨a, rs, rfl, hS, h63, q⟩ := h
  refine ⟨_, (pss_cons (ps_set (i := 1) sc.nd rfl (by first | exact Or.inl rfl | exact Or.inr rfl) (pe_cal clawsides hr (by rfl) pass0 (pa_cons (pv 0) pa_nil))) (pss_cons (ps_set (i := 2) sc.nd rfl (by first | exact Or.inl rfl | exact Or.inr rfl) pe_int) (pss_cons (ps_for PassesOwn.never rfl (pi_tup (pv 1)) (pg_name (i := 3) sc.nd rfl (Or.inl rfl)) (pss_one (ps_set (i := 2) sc.nd rfl (by first | exact Or.inl rfl | exact Or.inr rfl) (pe_op op_mul (pv 2) (pv 3))))) (pss_cons (ps_set (i := 4) sc.nd rfl (by first | exact Or.inl rfl | exact Or.inr rfl) (pe_slice sl_list (pe_slice sl_list (pv 0) po_none (po_some pe_int)) po_none (po_some (pv 2)))) (pss_cons (ps_set (i := 4) sc.nd rfl (by first | exact Or.inl rfl | exact Or.inr rfl) (pe_op op_catL (pv 4) (pe_comp (own := ["k"]) (fv := ["script"]) (js := [0]) rfl (pi_range1 (by rfl) zrange (pa_cons (pe_op op_sub (pv 2) (pe_callB call_len_seq (by rfl) zlen PySem.boot_len (pa_cons (pv 4) pa_nil))) pa_nil)) rfl (by decide) rfl (by decide) (by first | exact fun _ _ h => h | exact cl_sub1 rfl | exact cl_sub2 rfl rfl | exact cl_sub3 rfl rfl rfl) (has_of (by rfl)) rfl (cap1 (by first | exact ⟨rfl, .inl rfl, .inl rfl⟩ | exact ⟨rfl, .inl rfl, .inr rfl⟩)) (fun _ _ _ _ => (pg_name (i := 0) (show (["k", "script"] : List Str).Nodup by decide +kernel) rfl (Or.inl rfl))) (fun _ _ _ _ => (pe_op op_sub (pe_op op_mul (pe_cal clawat hr (by rfl) pass0 (pa_cons (pv 1) (pa_cons pe_int pa_nil))) (pv 0)) (pe_op op_mul (pv 0) (pv 0))))))) (pss_cons (ps_set (i := 5) sc.nd rfl (by first | exact Or.inl rfl | exact Or.inr rfl) (pe_callTy call_list_of (by rfl) zlist boot_list (pa_cons (pv 4) pa_nil))) (pss_cons (ps_set (i := 6) sc.nd rfl (by first | exact Or.inl rfl | exact Or.inr rfl) (pe_cal ctableof hr (by rfl) passNo (pa_cons (pv 1) (pa_cons (pv 5) pa_nil)))) (pss_cons (ps_if (pw_or (pt_cmpR (op_neL hr.units0) (pv 5) (pv 4) (nomark _)) (pw_or1 (pw_and (pt_cmpR op_eq (pe_op op_mod (pe_op op_fdiv (pe_cal clawat hr (by rfl) pass0 (pa_cons (pv 0) (pa_cons pe_int pa_nil))) pe_int) pe_int) pe_int (nomark _)) (pw_and1 (pt_cmpR (op_neD (hu20 hr)) (pe_cal ctableof hr (by rfl) passNo (pa_cons (pv 1) (pa_cons (pe_callTy call_tuple_of (by rfl) ztuple boot_tuple (pa_cons (pv 4) pa_nil)) pa_nil))) (pv 6) (nomark _)))).pt)).pt (pss_one (ps_ret pe_bl)) pss_nil) (pss_cons (ps_if (pw_or (pt_not (pt_val (pe_cal clawcells hr (by rfl) pass0 (pa_cons (pv 6) (pa_cons (pv 1) (pa_cons (pv 4) pa_nil)))))) (pw_or1 (pt_not (pt_val (pe_cal clawstrange hr (by rfl) pass0 (pa_cons (pv 6) (pa_cons (pv 1) (pa_cons (pe_cal clawat hr (by rfl) pass0 (pa_cons (pv 0) (pa_cons pe_int pa_nil))) pa_nil)))))))).pt (pss_one (ps_ret pe_bl)) pss_nil) (pss_cons (ps_if (pt_not (pt_val (pe_cal clawownlists hr (by rfl) pass0 (pa_cons (pv 6) (pa_cons (pv 1) (pa_cons (pe_callB call_len_seq (by rfl) zlen PySem.boot_len (pa_cons (pv 4) pa_nil)) pa_nil)))))) (pss_one (ps_ret pe_bl)) pss_nil) (pss_cons (ps_set (i := 7) sc.nd rfl (by first | exact Or.inl rfl | exact Or.inr rfl) (pe_cal calone hr (by rfl) pass0 (pa_cons (pe_cal clawat hr (by rfl) pass0 (pa_cons (pv 0) (pa_cons pe_int pa_nil))) pa_nil))) (pss_cons (ps_if (pw_or (pt_not (pt_val (pe_callB call_isiTT (by rfl) zisinstance boot_isinstance (pa_cons (pv 7) (pa_cons (pe_bltn (v := .ty "tuple") (by rfl) ztuple boot_tuple rfl) pa_nil))))) (pw_or (pt_cmpR op_ne (pe_callB call_len_seq (by rfl) zlen PySem.boot_len (pa_cons (pv 7) pa_nil)) pe_int (nomark _)) (pw_or (pt_cmpR (op_neT hr.units0) (pe_ix ix_tupH (pv 7) pe_int (fun _ _ => rfl)) (pe_tup pa_nil) (nomark _)) (pw_or1 (pt_not (pt_val (pe_callB call_isiTT (by rfl) zisinstance boot_isinstance (pa_cons (pe_ix ix_tupH (pv 7) pe_int (fun _ _ => rfl)) (pa_cons (pe_bltn (v := .ty "tuple") (by rfl) ztuple boot_tuple rfl) pa_nil))))))))).pt (pss_one (ps_ret pe_bl)) pss_nil) (pss_cons (ps_if (pw_or (pt_cmpR op_ne (pe_callB call_len_seq (by rfl) zlen PySem.boot_len (pa_cons (pe_ix ix_tupH (pv 7) pe_int (fun _ _ => rfl)) pa_nil)) pe_int (nomark _)) (pw_or (pt_not (pt_val (pe_cal clawheld hr (by rfl) pass0 (pa_cons (pe_ix ix_tupH (pe_ix ix_tupH (pv 7) pe_int (fun _ _ => rfl)) pe_int (fun _ _ => rfl)) (pa_cons (pe_cal clawat hr (by rfl) pass0 (pa_cons (pv 0) (pa_cons pe_int pa_nil))) pa_nil))))) (pw_or1 (pt_cmpR op_ne (pe_cal cnested hr (by rfl) pass0 (pa_cons (pv 7) pa_nil)) (pe_ix ix_tupH (pe_ix ix_tupH (pv 7) pe_int (fun _ _ => rfl)) pe_int (fun _ _ => rfl)) (nomark _))))).pt (pss_one (ps_ret pe_bl)) pss_nil) (pss_cons (ps_if (pw_or (pt_cmpR op_ne (pe_cal clawrefusal hr (by rfl) pass0 (pa_cons (pv 1) (pa_cons (pe_op op_catL (pv 4) (pe_lst (pa_cons pe_int pa_nil))) pa_nil))) pe_str (nomark _)) (pw_or1 (pt_cmpR op_ne (pe_cal clawrefusal hr (by rfl) pass0 (pa_cons (pe_op op_catS (pe_tup (pa_cons pe_int (pa_cons pe_int pa_nil))) (pe_slice sl_tupA (pv 1) po_none (po_some pe_int))) (pa_cons (pv 4) pa_nil))) pe_str (nomark _)))).pt (pss_one (ps_ret pe_bl)) pss_nil) (pss_cons (ps_if (pw_and (pt_cmpR op_gt (pe_callB call_len_seq (by rfl) zlen PySem.boot_len (pa_cons (pv 4) pa_nil)) pe_int (nomark _)) (pw_and1 (pt_cmpR op_ne (pe_cal clawrefusal hr (by rfl) pass0 (pa_cons (pv 1) (pa_cons (pe_slice sl_list (pv 4) (po_some pe_int) po_none) pa_nil))) pe_str (nomark _)))).pt (pss_one (ps_ret pe_bl)) pss_nil) (pss_one (ps_ret (pe_cmpR op_eq (pe_cal clawrefusal hr (by rfl) pass0 (pa_cons (pe_tup (pa_cons pe_int (pa_cons pe_int (pa_cons pe_int (pa_cons pe_int (pa_cons pe_int (pa_cons pe_int (pa_cons pe_int pa_nil)))))))) (pa_cons (pe_lst (pa_cons pe_int pa_nil)) pa_nil))) pe_str (nomark _))))))))))))))))))), ?_⟩
  simp only [L2.start, List.length_cons, List.length_nil, List.replicate, List.cons_append, List.nil_append, Nat.reduceSub, Nat.reduceAdd, List.map_cons, List.map_nil]
  refine seq_with (fun σ G => ∃ p ns, SqL K G a (rs.map V.int) ∧ sdOk ns ∧ ¬ bigI ns ∧ ns.length ≤ 6 ∧ (∀ n ∈ ns, n ≤ 899) ∧ G p = some (.tup (ns.map V.int)) ∧ σ = [some (.ref a), some (.ref p), none, none, none, none, none, none]) ?_ (fun R hR => ?_)
  rotate_left
  · wp_walk using rRepT, splawsides
    exact ⟨rs, hS, h63, fun G p ns s h1 h2 h3 h4 h5 => hR _ _ ⟨p, ns, s.seq hS, h1, h2, h3, h4, h5, rfl⟩⟩
  rintro σ1 G1 ⟨p, ns, hS1, hs, nb, h6, b9, hp, rfl⟩
  obtain ⟨z0, z5⟩ := prod_512 hs nb
  refine seq_with (fun σ G => G = G1 ∧ σ = [some (.ref a), some (.ref p), some (.int 1), none, none, none, none, none]) ?_ (fun R hR => ?_)
  rotate_left
  · wp_walk using rRepT
    exact hR _ _ ⟨rfl, rfl⟩
  rintro σ2 G2 ⟨rfl, rfl⟩
  refine seq_with (fun σ G => G = G2 ∧ ∃ y, σ = [some (.ref a), some (.ref p), some (.int (prodI ns)), y, none, none, none, none]) ?_ (fun R hR => ?_)
  rotate_left
  · wp_walk using rRepT
    refine LoopT.mk (xs := ns.map V.int) (.of hp) (fun i σ G => G = G2 ∧ ∃ y, σ = [some (.ref a), some (.ref p), some (.int (prodI (ns.take i))), y, none, none, none, none]) ⟨rfl, _, rfl⟩ (fun i σ G _ h => by rw [h.1]; exact .of hp) (fun i x σ G e h => ?_) (fun σ G h => ?_)
    · obtain ⟨rfl, y, rfl⟩ := h
      obtain ⟨m, rfl, hm, b0, b1⟩ := sd_at hs e
      wp_walk using rRepT
      rw [prod_step hm]
      exact ⟨.inr ⟨by omega, by omega⟩, rfl, _, rfl⟩
    · obtain ⟨rfl, y, rfl⟩ := h
      rw [len_map, List.take_length]
      exact hR _ _ ⟨rfl, _, rfl⟩
  rintro σ3 G3 ⟨rfl, y3, rfl⟩
  refine seq_with (fun σ G => Same G3 G ∧ ∃ (c : Addr) (us : List Int), G c = some (.lst (us.map V.int)) ∧ (us.length : Int) ≤ prodI ns ∧ σ = [some (.ref a), some (.ref p), some (.int (prodI ns)), y3, some (.ref c), none, none, none]) ?_ (fun R hR => ?_)
  rotate_left
  · wp_walk using rRepT, rSlL
    obtain ⟨z, hz⟩ : ∃ z : Nat, prodI ns = (z : Int) := ⟨(prodI ns).toNat, by omega⟩
    have ec : cutV (cutV (rs.map V.int) none (some 400)) none (some (prodI ns)) = ((rs.take 400).take z).map V.int := by rw [hz, show (some (400 : Int)) = some ((400 : Nat) : Int) from rfl, cut_any, cut_any]
    exact ⟨_, hS1, fun p1 hp1 => ⟨_, .of upd_same, fun p2 hp2 => hR _ _ ⟨(same_new hp1 _).trans (same_new hp2 _), p2, _, by rw [upd_same, ec], by rw [List.length_take]; omega, rfl⟩⟩⟩
  rintro σ4 G4 ⟨s4, c4, us, hc4, ul, rfl⟩
  refine seq_with (fun σ G => Same G4 G ∧ ∃ (c : Addr) (cs : List Int), G c = some (.lst (cs.map V.int)) ∧ (cs.length : Int) = prodI ns ∧ σ = [some (.ref a), some (.ref p), some (.int (prodI ns)), y3, some (.ref c), none, none, none]) ?_ (fun R hR => ?_)
  rotate_left
  · wp_walk using rRepT, splawat
    refine ⟨_, .inl (.of hc4), by rw [len_map]; omega, by rw [len_map]; omega, ?_⟩
    rw [len_map]
    refine CompR.mk (fun j ys σ G => G = G4 ∧ (∃ L : List Int, ys = L.map V.int ∧ L.length = j) ∧ ∃ y, σ = [y, some (.ref a)]) ⟨rfl, ⟨[], rfl, rfl⟩, _, rfl⟩ (fun j ys σ G hj h => ?_) (fun ys σ G h p1 hp1 => ?_)
    · obtain ⟨rfl, ⟨L, rfl, lj⟩, y, rfl⟩ := h
      wp_walk using rRepT, splawat, Int.zero_add
      exact ⟨by rw [List.length_map]; exact small1000 (by omega), rs, 1, rfl, s4.seq hS1, .inr ⟨by omega, by omega⟩, .inr ⟨by omega, by omega⟩, ⟨L ++ [_], by rw [List.map_append]; rfl, by rw [List.length_append, lj]; rfl⟩, _, rfl⟩
    · obtain ⟨rfl, ⟨L, rfl, lj⟩, y, rfl⟩ := h
      exact ⟨p1, rfl, _, .of (same_new hp1 _ _ _ hc4), _, .of upd_same, small (by rw [List.length_map, List.length_map]; omega), fun p2 hp2 => hR _ _ ⟨(same_new hp1 _).trans (same_new hp2 _), p2, us ++ L, by rw [upd_same, List.map_append], by rw [List.length_append]; omega, rfl⟩⟩
  rintro σ5 G5 ⟨s5, c, cs, hc, cl, rfl⟩
  have s05 := s4.trans s5
  have hS5 := s05.seq hS1
  have hp5 := s05 _ _ hp
  clear hS1 hp s05 hc4 hS
  refine seq_with (fun σ G => Same G5 G ∧ ∃ (h : Addr), G h = some (.lst (cs.map V.int)) ∧ σ = [some (.ref a), some (.ref p), some (.int (prodI ns)), y3, some (.ref c), some (.ref h), none, none]) ?_ (fun R hR => ?_)
  rotate_left
  · wp_walk using rRepT
    exact ⟨_, .inl (.of hc), fun l hl => hR _ _ ⟨same_new hl _, l, upd_same, rfl⟩⟩
  rintro σ6 G6 ⟨s6, h6', hh, rfl⟩
  refine seq_with (fun σ G => Same G6 G ∧ ∃ (t : Addr), TbAt G t ns (cs.map wrapI) ∧ σ = [some (.ref a), some (.ref p), some (.int (prodI ns)), y3, some (.ref c), some (.ref h6'), some (.ref t), none]) ?_ (fun R hR => ?_)
  rotate_left
  · wp_walk using rRepT, sptableof
    exact ⟨ns, s6 _ _ hp5, cs, .inl hh, hs, by omega, by omega, fun z => absurd z nb, fun _ z => absurd cl z, fun _ _ G t s ht => hR _ _ ⟨s, t, ht, rfl⟩⟩
  rintro σ7 G7 ⟨s7, t, ht, rfl⟩
  have s57 := s6.trans s7
  have hS7 := s57.seq hS5
  have hp7 := s57 _ _ hp5
  have hc7 := s57 _ _ hc
  have hh7 := s7 _ _ hh
  refine seq_with (fun σ G => Same G7 G ∧ σ = [some (.ref a), some (.ref p), some (.int (prodI ns)), y3, some (.ref c), some (.ref h6'), some (.ref t), none]) ?_ (fun R hR => ?_)
  rotate_left
  · wp_walk using rRepT, splawat, sptableof
    refine ⟨_, .of hh7, _, .of hc7, flat_ints _, flat_ints _, ?_⟩
    rw [eqVs_ints, if_neg (by simp)]
    refine ⟨rs, 0, rfl, hS7, ?_⟩
    split
    · exact ⟨_, .inl ⟨.of hc7, fun l hl => ⟨ns, same_new hl _ _ _ hp7, cs, .inr upd_same, hs, by omega, by omega, fun z => absurd z nb, fun _ z => absurd cl z, fun _ _ G t2 s ht2 => ⟨⟨_, rfl⟩, tb_alk ht2 (ht.same ((same_new hl _).trans s)), hR _ _ ⟨(same_new hl _).trans s, rfl⟩⟩⟩⟩⟩
    · exact hR _ _ ⟨Same.refl _, rfl⟩
  rintro σ8 G8 ⟨s8, rfl⟩
  refine seq_with (fun σ G => Same G7 G ∧ σ = [some (.ref a), some (.ref p), some (.int (prodI ns)), y3, some (.ref c), some (.ref h6'), some (.ref t), none]) ?_ (fun R hR => ?_)
  rotate_left
  · wp_walk using rRepT, splawcells, splawstrange, splawat
    refine ⟨ns, cs, ht.same s8, s8 _ _ hp7, s8 _ _ hc7, hs, h6, cl, z5, b9, fun G s => ?_⟩
    have sG := s8.trans s
    exact ⟨rs, 4, rfl, sG.seq hS7, ns, cs.map wrapI, ht.same sG, sG _ _ hp7, hs, h6, by rw [List.length_map]; exact cl, fun G' s' => hR _ _ ⟨sG.trans s', rfl⟩⟩
  rintro σ9 G9 ⟨s9, rfl⟩
  refine seq_with (fun σ G => Same G7 G ∧ σ = [some (.ref a), some (.ref p), some (.int (prodI ns)), y3, some (.ref c), some (.ref h6'), some (.ref t), none]) ?_ (fun R hR => ?_)
  rotate_left
  · wp_walk using rRepT, splawownlists
    exact ⟨_, .inl (.of (s9 _ _ hc7)), ns, by rw [len_map]; exact cl, cs.map wrapI, ht.same s9, s9 _ _ hp7, hs, h6, by rw [List.length_map]; exact cl, z5, b9, fun G s => hR _ _ ⟨s9.trans s, rfl⟩⟩
  rintro σa Ga ⟨sa, rfl⟩
  refine seq_with (fun σ G => Same G7 G ∧ ∃ o, TbAt G o [] [wrapI (cellI rs 2)] ∧ σ = [some (.ref a), some (.ref p), some (.int (prodI ns)), y3, some (.ref c), some (.ref h6'), some (.ref t), some (.ref o)]) ?_ (fun R hR => ?_)
  rotate_left
  · wp_walk using rRepT, spalone, splawat
    exact ⟨rs, 2, rfl, sa.seq hS7, fun G o s ho => hR _ _ ⟨sa.trans s, o, ho, rfl⟩⟩
  rintro σb Gb ⟨sb, o, ⟨o1, o2, t1, t2, t3⟩, rfl⟩
  refine seq_with (fun σ G => Same Gb G ∧ σ = [some (.ref a), some (.ref p), some (.int (prodI ns)), y3, some (.ref c), some (.ref h6'), some (.ref t), some (.ref o)]) ?_ (fun R hR => ?_)
  rotate_left
  · wp_walk using rRepT
    refine ⟨_, t1, _, .inr (.of t1), ?_⟩
    rw [if_neg (fun z => z rfl)]
    refine ⟨_, t1, _, atI_nat (j := 0) rfl, Nat.zero_le _, fun p1 hp1 => ⟨_, rfl, _, .of (same_new hp1 _ _ _ t2), _, .of upd_same, rfl, rfl, ?_⟩⟩
    rw [if_neg (fun z => by cases z)]
    exact ⟨_, same_new hp1 _ _ _ t1, _, atI_nat (j := 1) rfl, _, rfl, _, same_new hp1 _ _ _ t3, hR _ _ ⟨same_new hp1 _, rfl⟩⟩
  rintro σc Gc ⟨sc, rfl⟩
  have u1 := sc _ _ t1
  have u2 := sc _ _ t2
  have u3 := sc _ _ t3
  refine seq_with (fun σ G => Same Gc G ∧ σ = [some (.ref a), some (.ref p), some (.int (prodI ns)), y3, some (.ref c), some (.ref h6'), some (.ref t), some (.ref o)]) ?_ (fun R hR => ?_)
  rotate_left
  · wp_walk using rRepT, splawat, splawheld, spnested
    refine ⟨_, u1, _, atI_nat (j := 1) rfl, _, rfl, _, .inr (.of u3), ?_⟩
    rw [if_neg (fun z => z rfl)]
    refine ⟨_, u1, _, atI_nat (j := 1) rfl, _, rfl, _, u3, _, atI_nat (j := 0) rfl, rs, 2, rfl, (sb.trans sc).seq hS7, _, rfl, rfl, [], [wrapI (cellI rs 2)], ⟨o1, o2, u1, u2, u3⟩, sd_nil, by decide, by decide, rfl, by simp, fc0, fun G v s nv => ?_⟩
    obtain rfl := nv
    refine ⟨_, s _ _ u1, _, atI_nat (j := 1) rfl, _, rfl, _, s _ _ u3, _, atI_nat (j := 0) rfl, rfl, ?_⟩
    rw [if_neg (fun z => z rfl)]
    exact hR _ _ ⟨s, rfl⟩
  rintro σd Gd ⟨sd, rfl⟩
  have s7d := sb.trans (sc.trans sd)
  have hpd := s7d _ _ hp7
  have hcd := s7d _ _ hc7
  refine seq_with (fun σ G => Same Gd G ∧ σ = [some (.ref a), some (.ref p), some (.int (prodI ns)), y3, some (.ref c), some (.ref h6'), some (.ref t), some (.ref o)]) ?_ (fun R hR => ?_)
  rotate_left
  · wp_walk using rRepT, splawrefusal
    refine ⟨small (by decide), fun p1 hp1 => ⟨_, .of (same_new hp1 _ _ _ hcd), _, .of upd_same, small (by simp only [List.length_map, List.length_cons, List.length_nil]; omega), fun p2 hp2 => ?_⟩⟩
    have q2 := (same_new hp1 (.lst [V.int 7])).trans (same_new hp2 (.lst (cs.map V.int ++ [V.int 7])))
    have g2 : upd (upd Gd p1 (.lst [V.int 7])) p2 (.lst (cs.map V.int ++ [V.int 7])) p2 = some (.lst ((cs ++ [7]).map V.int)) := by rw [upd_same, List.map_append]; rfl
    generalize upd (upd Gd p1 (.lst [V.int 7])) p2 (.lst (cs.map V.int ++ [V.int 7])) = G2 at *
    refine ⟨ns, q2 _ _ hpd, cs ++ [7], .inl g2, hs, by omega, by rw [List.length_append, List.length_singleton]; omega, .inr (by rw [List.length_append, List.length_singleton]; omega), fun z => absurd z nb, fun _ G s => ⟨small (by decide), fun p3 hp3 => ?_⟩⟩
    have q3 := (q2.trans s).trans (same_new hp3 (.tup [V.int 9, V.int 57]))
    refine ⟨_, q3 _ _ hpd, fun r K1 k1 hr => ?_⟩
    rw [show (some (2 : Int)) = some ((2 : Nat) : Int) from rfl, cut_any] at hr
    refine ⟨_, k1 _ _ upd_same, _, hr, small (by simp only [List.length_map, List.length_take, List.length_cons, List.length_nil]; omega), fun r2 K2 k2 hr2 => ?_⟩
    have q4 := q3.trans (k1.trans k2)
    have sd2 : sdOk (ns.take 2) := fun n hn => hs n (List.mem_of_mem_take hn)
    exact ⟨9 :: 57 :: ns.take 2, hr2, cs, .inl (q4 _ _ hcd), sd_9 sd2, by rw [List.length_cons, List.length_cons, List.length_take]; omega, by omega, .inl (big_9 sd2), fun _ G3 s3 => hR _ _ ⟨q4.trans s3, rfl⟩, fun z => absurd (big_9 sd2) z⟩
  rintro σe Ge ⟨se, rfl⟩
  refine seq_with (fun σ G => σ = [some (.ref a), some (.ref p), some (.int (prodI ns)), y3, some (.ref c), some (.ref h6'), some (.ref t), some (.ref o)]) ?_ (fun R hR => ?_)
  rotate_left
  · wp_walk using rRepT, splawrefusal, rSlL
    refine ⟨_, .inl (.of (se _ _ hcd)), ?_⟩
    rw [len_map]
    split
    · refine ⟨_, .of (se _ _ hcd), fun p1 hp1 => ⟨ns, same_new hp1 _ _ _ (se _ _ hpd), cs.drop 1, .inl (by rw [upd_same, show (some (1 : Int)) = some ((1 : Nat) : Int) from rfl, cut_anyH]), hs, by omega, by rw [List.length_drop]; omega, .inr (by rw [List.length_drop]; omega), fun z => absurd z nb, fun _ G s => hR _ _ rfl⟩⟩
    · exact hR _ _ rfl
  rintro σf Gf rfl
  wp_walk using rRepT, splawrefusal
  have b7 : bigI [1, 1, 1, 1, 1, 1, 1] := .inl (by decide)
  refine ⟨small (by decide), fun p1 hp1 => ⟨small (by decide), fun p2 hp2 => ⟨[1, 1, 1, 1, 1, 1, 1], same_new hp2 _ _ _ upd_same, [7], .inl upd_same, sd7, by decide, by decide, .inl b7, fun _ G s => ?_, fun z => absurd b7 z⟩⟩⟩
  rw [decide_true]
  exact q _
end
theorem us_len1 {α : Type} {us : List α} (h : us.length = 1) : ∃ x0, us = [x0] := by
  match us, h with
  | [x0], _ => exact ⟨_, rfl⟩
theorem us_len2 {α : Type} {us : List α} (h : us.length = 2) : ∃ x0 x1, us = [x0, x1] := by
  match us, h with
  | [x0, x1], _ => exact ⟨_, _, rfl⟩
theorem us_len3 {α : Type} {us : List α} (h : us.length = 3) : ∃ x0 x1 x2, us = [x0, x1, x2] := by
  match us, h with
  | [x0, x1, x2], _ => exact ⟨_, _, _, rfl⟩
theorem all_mk {l : PySem.W.OpenLaw} {w : World} {K : PySem.W.Frag} {h : Heap} {mg : Str → Option Value} {fa f0 f1 f2 f3 f4 f5 f6 f7 f8 f9 f10 f11 f12 f13 f14 f15 f16 f17 f18 f19 f20 f21 f22 : Addr} (X : K.In h) (G : h.Ns mainGlobals mg) (hfa : mg "law" = some (.ref fa))
    {od0 an0 od1 an1 od2 an2 od3 an3 od4 an4 od5 an5 od6 an6 od7 an7 od8 an8 od9 an9 od10 an10 od11 an11 od12 an12 od13 an13 od14 an14 od15 an15 od16 an16 od17 an17 od18 an18 od19 an19 od20 an20 od21 an21 od22 an22 : Option Addr} {sl0 sl1 sl2 sl3 sl4 sl5 sl6 sl7 sl8 sl9 sl10 sl11 sl12 sl13 sl14 sl15 sl16 sl17 sl18 sl19 sl20 sl21 sl22 : Array (Option Value)} {oc0 kV0 dc0 pm0 ct0 cd0 oc1 kV1 dc1 pm1 ct1 cd1 oc2 kV2 dc2 pm2 ct2 cd2 oc3 kV3 dc3 pm3 ct3 cd3 oc4 kV4 dc4 pm4 ct4 cd4 oc5 kV5 dc5 pm5 ct5 cd5 oc6 kV6 dc6 pm6 ct6 cd6 oc7 kV7 dc7 pm7 ct7 cd7 oc8 kV8 dc8 pm8 ct8 cd8 oc9 kV9 dc9 pm9 ct9 cd9 oc10 kV10 dc10 pm10 ct10 cd10 oc11 kV11 dc11 pm11 ct11 cd11 oc12 kV12 dc12 pm12 ct12 cd12 oc13 kV13 dc13 pm13 ct13 cd13 oc14 kV14 dc14 pm14 ct14 cd14 oc15 kV15 dc15 pm15 ct15 cd15 oc16 kV16 dc16 pm16 ct16 cd16 oc17 kV17 dc17 pm17 ct17 cd17 oc18 kV18 dc18 pm18 ct18 cd18 oc19 kV19 dc19 pm19 ct19 cd19 oc20 kV20 dc20 pm20 ct20 cd20 oc21 kV21 dc21 pm21 ct21 cd21 oc22 kV22 dc22 pm22 ct22 cd22 : Value}
    (a0 : PySem.W.nsIn K mainGlobals "amount" = some (some (.ref f0))) (l0 : K.lookup f0 = some ⟨oc0, od0, .func (PySem.W.fnOf "amount" "amount" (defArgs samount) (defBody samount) (defScope samount) .none kV0 dc0 pm0 an0 cd0 ct0), sl0⟩) (q0 : PySem.W.codeIn K cd0 "amount" = true) (k0 : PySem.W.keepIn K (.ref f0) = true)
    (a1 : PySem.W.nsIn K mainGlobals "breadth" = some (some (.ref f1))) (l1 : K.lookup f1 = some ⟨oc1, od1, .func (PySem.W.fnOf "breadth" "breadth" (defArgs sbreadth) (defBody sbreadth) (defScope sbreadth) .none kV1 dc1 pm1 an1 cd1 ct1), sl1⟩) (q1 : PySem.W.codeIn K cd1 "breadth" = true) (k1 : PySem.W.keepIn K (.ref f1) = true)
    (a2 : PySem.W.nsIn K mainGlobals "allowed" = some (some (.ref f2))) (l2 : K.lookup f2 = some ⟨oc2, od2, .func (PySem.W.fnOf "allowed" "allowed" (defArgs sallowed) (defBody sallowed) (defScope sallowed) .none kV2 dc2 pm2 an2 cd2 ct2), sl2⟩) (q2 : PySem.W.codeIn K cd2 "allowed" = true) (k2 : PySem.W.keepIn K (.ref f2) = true)
    (a3 : PySem.W.nsIn K mainGlobals "strides_of" = some (some (.ref f3))) (l3 : K.lookup f3 = some ⟨oc3, od3, .func (PySem.W.fnOf "strides_of" "strides_of" (defArgs sstridesof) (defBody sstridesof) (defScope sstridesof) .none kV3 dc3 pm3 an3 cd3 ct3), sl3⟩) (q3 : PySem.W.codeIn K cd3 "strides_of" = true) (k3 : PySem.W.keepIn K (.ref f3) = true)
    (a4 : PySem.W.nsIn K mainGlobals "place_of" = some (some (.ref f4))) (l4 : K.lookup f4 = some ⟨oc4, od4, .func (PySem.W.fnOf "place_of" "place_of" (defArgs splaceof) (defBody splaceof) (defScope splaceof) .none kV4 dc4 pm4 an4 cd4 ct4), sl4⟩) (q4 : PySem.W.codeIn K cd4 "place_of" = true) (k4 : PySem.W.keepIn K (.ref f4) = true)
    (a5 : PySem.W.nsIn K mainGlobals "at_of" = some (some (.ref f5))) (l5 : K.lookup f5 = some ⟨oc5, od5, .func (PySem.W.fnOf "at_of" "at_of" (defArgs satof) (defBody satof) (defScope satof) .none kV5 dc5 pm5 an5 cd5 ct5), sl5⟩) (q5 : PySem.W.codeIn K cd5 "at_of" = true) (k5 : PySem.W.keepIn K (.ref f5) = true)
    (a6 : PySem.W.nsIn K mainGlobals "all_at" = some (some (.ref f6))) (l6 : K.lookup f6 = some ⟨oc6, od6, .func (PySem.W.fnOf "all_at" "all_at" (defArgs sallat) (defBody sallat) (defScope sallat) .none kV6 dc6 pm6 an6 cd6 ct6), sl6⟩) (q6 : PySem.W.codeIn K cd6 "all_at" = true) (k6 : PySem.W.keepIn K (.ref f6) = true)
    (a7 : PySem.W.nsIn K mainGlobals "wrapped" = some (some (.ref f7))) (l7 : K.lookup f7 = some ⟨oc7, od7, .func (PySem.W.fnOf "wrapped" "wrapped" (defArgs swrapped) (defBody swrapped) (defScope swrapped) .none kV7 dc7 pm7 an7 cd7 ct7), sl7⟩) (q7 : PySem.W.codeIn K cd7 "wrapped" = true) (k7 : PySem.W.keepIn K (.ref f7) = true)
    (a8 : PySem.W.nsIn K mainGlobals "table_of" = some (some (.ref f8))) (l8 : K.lookup f8 = some ⟨oc8, od8, .func (PySem.W.fnOf "table_of" "table_of" (defArgs stableof) (defBody stableof) (defScope stableof) .none kV8 dc8 pm8 an8 cd8 ct8), sl8⟩) (q8 : PySem.W.codeIn K cd8 "table_of" = true) (k8 : PySem.W.keepIn K (.ref f8) = true)
    (a9 : PySem.W.nsIn K mainGlobals "alone" = some (some (.ref f9))) (l9 : K.lookup f9 = some ⟨oc9, od9, .func (PySem.W.fnOf "alone" "alone" (defArgs salone) (defBody salone) (defScope salone) .none kV9 dc9 pm9 an9 cd9 ct9), sl9⟩) (q9 : PySem.W.codeIn K cd9 "alone" = true) (k9 : PySem.W.keepIn K (.ref f9) = true)
    (a10 : PySem.W.nsIn K mainGlobals "cell_at" = some (some (.ref f10))) (l10 : K.lookup f10 = some ⟨oc10, od10, .func (PySem.W.fnOf "cell_at" "cell_at" (defArgs scellat) (defBody scellat) (defScope scellat) .none kV10 dc10 pm10 an10 cd10 ct10), sl10⟩) (q10 : PySem.W.codeIn K cd10 "cell_at" = true) (k10 : PySem.W.keepIn K (.ref f10) = true)
    (a11 : PySem.W.nsIn K mainGlobals "_law_at" = some (some (.ref f11))) (l11 : K.lookup f11 = some ⟨oc11, od11, .func (PySem.W.fnOf "_law_at" "_law_at" (defArgs slawat) (defBody slawat) (defScope slawat) .none kV11 dc11 pm11 an11 cd11 ct11), sl11⟩) (q11 : PySem.W.codeIn K cd11 "_law_at" = true) (k11 : PySem.W.keepIn K (.ref f11) = true)
    (a12 : PySem.W.nsIn K mainGlobals "_law_held" = some (some (.ref f12))) (l12 : K.lookup f12 = some ⟨oc12, od12, .func (PySem.W.fnOf "_law_held" "_law_held" (defArgs slawheld) (defBody slawheld) (defScope slawheld) .none kV12 dc12 pm12 an12 cd12 ct12), sl12⟩) (q12 : PySem.W.codeIn K cd12 "_law_held" = true) (k12 : PySem.W.keepIn K (.ref f12) = true)
    (a13 : PySem.W.nsIn K mainGlobals "_law_no_cell" = some (some (.ref f13))) (l13 : K.lookup f13 = some ⟨oc13, od13, .func (PySem.W.fnOf "_law_no_cell" "_law_no_cell" (defArgs slawnocell) (defBody slawnocell) (defScope slawnocell) .none kV13 dc13 pm13 an13 cd13 ct13), sl13⟩) (q13 : PySem.W.codeIn K cd13 "_law_no_cell" = true) (k13 : PySem.W.keepIn K (.ref f13) = true)
    (a14 : PySem.W.nsIn K mainGlobals "nested" = some (some (.ref f14))) (l14 : K.lookup f14 = some ⟨oc14, od14, .func (PySem.W.fnOf "nested" "nested" (defArgs snested) (defBody snested) (defScope snested) .none kV14 dc14 pm14 an14 cd14 ct14), sl14⟩) (q14 : PySem.W.codeIn K cd14 "nested" = true) (k14 : PySem.W.keepIn K (.ref f14) = true)
    (a15 : PySem.W.nsIn K mainGlobals "_law_count" = some (some (.ref f15))) (l15 : K.lookup f15 = some ⟨oc15, od15, .func (PySem.W.fnOf "_law_count" "_law_count" (defArgs slawcount) (defBody slawcount) (defScope slawcount) .none kV15 dc15 pm15 an15 cd15 ct15), sl15⟩) (q15 : PySem.W.codeIn K cd15 "_law_count" = true) (k15 : PySem.W.keepIn K (.ref f15) = true)
    (a16 : PySem.W.nsIn K mainGlobals "_law_flat" = some (some (.ref f16))) (l16 : K.lookup f16 = some ⟨oc16, od16, .func (PySem.W.fnOf "_law_flat" "_law_flat" (defArgs slawflat) (defBody slawflat) (defScope slawflat) .none kV16 dc16 pm16 an16 cd16 ct16), sl16⟩) (q16 : PySem.W.codeIn K cd16 "_law_flat" = true) (k16 : PySem.W.keepIn K (.ref f16) = true)
    (a17 : PySem.W.nsIn K mainGlobals "_law_own_lists" = some (some (.ref f17))) (l17 : K.lookup f17 = some ⟨oc17, od17, .func (PySem.W.fnOf "_law_own_lists" "_law_own_lists" (defArgs slawownlists) (defBody slawownlists) (defScope slawownlists) .none kV17 dc17 pm17 an17 cd17 ct17), sl17⟩) (q17 : PySem.W.codeIn K cd17 "_law_own_lists" = true) (k17 : PySem.W.keepIn K (.ref f17) = true)
    (a18 : PySem.W.nsIn K mainGlobals "_law_refusal" = some (some (.ref f18))) (l18 : K.lookup f18 = some ⟨oc18, od18, .func (PySem.W.fnOf "_law_refusal" "_law_refusal" (defArgs slawrefusal) (defBody slawrefusal) (defScope slawrefusal) .none kV18 dc18 pm18 an18 cd18 ct18), sl18⟩) (q18 : PySem.W.codeIn K cd18 "_law_refusal" = true) (k18 : PySem.W.keepIn K (.ref f18) = true)
    (a19 : PySem.W.nsIn K mainGlobals "_law_sides" = some (some (.ref f19))) (l19 : K.lookup f19 = some ⟨oc19, od19, .func (PySem.W.fnOf "_law_sides" "_law_sides" (defArgs slawsides) (defBody slawsides) (defScope slawsides) .none kV19 dc19 pm19 an19 cd19 ct19), sl19⟩) (q19 : PySem.W.codeIn K cd19 "_law_sides" = true) (k19 : PySem.W.keepIn K (.ref f19) = true)
    (a20 : PySem.W.nsIn K mainGlobals "_law_cells" = some (some (.ref f20))) (l20 : K.lookup f20 = some ⟨oc20, od20, .func (PySem.W.fnOf "_law_cells" "_law_cells" (defArgs slawcells) (defBody slawcells) (defScope slawcells) .none kV20 dc20 pm20 an20 cd20 ct20), sl20⟩) (q20 : PySem.W.codeIn K cd20 "_law_cells" = true) (k20 : PySem.W.keepIn K (.ref f20) = true)
    (a21 : PySem.W.nsIn K mainGlobals "_law_strange" = some (some (.ref f21))) (l21 : K.lookup f21 = some ⟨oc21, od21, .func (PySem.W.fnOf "_law_strange" "_law_strange" (defArgs slawstrange) (defBody slawstrange) (defScope slawstrange) .none kV21 dc21 pm21 an21 cd21 ct21), sl21⟩) (q21 : PySem.W.codeIn K cd21 "_law_strange" = true) (k21 : PySem.W.keepIn K (.ref f21) = true)
    (a22 : PySem.W.nsIn K mainGlobals "law" = some (some (.ref f22))) (l22 : K.lookup f22 = some ⟨oc22, od22, .func (PySem.W.fnOf "law" "law" (defArgs slaw) (defBody slaw) (defScope slaw) .none kV22 dc22 pm22 an22 cd22 ct22), sl22⟩) (q22 : PySem.W.codeIn K cd22 "law" = true) (k22 : PySem.W.keepIn K (.ref f22) = true)
    (zlen : PySem.W.nsIn K mainGlobals "len" = some none)
    (ztuple : PySem.W.nsIn K mainGlobals "tuple" = some none)
    (zreversed : PySem.W.nsIn K mainGlobals "reversed" = some none)
    (zzip : PySem.W.nsIn K mainGlobals "zip" = some none)
    (zsum : PySem.W.nsIn K mainGlobals "sum" = some none)
    (zrange : PySem.W.nsIn K mainGlobals "range" = some none)
    (zisinstance : PySem.W.nsIn K mainGlobals "isinstance" = some none)
    (zint : PySem.W.nsIn K mainGlobals "int" = some none)
    (zbool : PySem.W.nsIn K mainGlobals "bool" = some none)
    (zlist : PySem.W.nsIn K mainGlobals "list" = some none)
    (zstr : PySem.W.nsIn K mainGlobals "str" = some none)
    (zmax : PySem.W.nsIn K mainGlobals "max" = some none)
    {tMOST_SIDES : Tok} (gMOST_SIDES : PySem.W.nsIn K mainGlobals "MOST_SIDES" = some (some (.int 6 tMOST_SIDES)))
    {tMOST_BREADTH : Tok} (gMOST_BREADTH : PySem.W.nsIn K mainGlobals "MOST_BREADTH" = some (some (.int 512 tMOST_BREADTH)))
    {tLOW : Tok} (gLOW : PySem.W.nsIn K mainGlobals "LOW" = some (some (.int (-9223372036854775808) tLOW)))
    {CTooLarge : Addr} (nTooLarge : PySem.W.nsIn K mainGlobals "TooLarge" = some (some (.ref CTooLarge)))
    {CNoPlace : Addr} (nNoPlace : PySem.W.nsIn K mainGlobals "NoPlace" = some (some (.ref CNoPlace)))
    {CUnlike : Addr} (nUnlike : PySem.W.nsIn K mainGlobals "Unlike" = some (some (.ref CUnlike)))
    {CBeyond : Addr} (nBeyond : PySem.W.nsIn K mainGlobals "Beyond" = some (some (.ref CBeyond)))
    {CLoomError : Addr} (nLoomError : PySem.W.nsIn K mainGlobals "LoomError" = some (some (.ref CLoomError)))
    {CNoSide : Addr} (nNoSide : PySem.W.nsIn K mainGlobals "NoSide" = some (some (.ref CNoSide)))
    (xTooLarge : PySem.W.excIn K CTooLarge [.type "ValueError", .type "Exception", .type "BaseException", .type "object"] "ValueError.__new__" = true)
    (xUnlike : PySem.W.excIn K CUnlike [.type "ValueError", .type "Exception", .type "BaseException", .type "object"] "ValueError.__new__" = true)
    (xNoPlace : PySem.W.excIn K CNoPlace [.type "ValueError", .type "Exception", .type "BaseException", .type "object"] "ValueError.__new__" = true)
    (kcT : (PySem.W.clsIn K CTooLarge).isSome = true)
    (kgaT : PySem.W.findIn K (.ref CTooLarge) "__getattribute__" = some (some (.builtin "BaseException.__getattribute__")))
    (kgtT : PySem.W.findIn K (.ref CTooLarge) "__getattr__" = some none)
    (kclT : PySem.W.findIn K (.ref CTooLarge) "__class__" = some (some (.builtin "object.__class__")))
    (kmoT : PySem.W.mroIn K CTooLarge (.type "object") = some true)
    (kmbT : PySem.W.mroIn K CTooLarge (.type "BaseException") = some true)
    (iT : PySem.W.kitOne K (.ref CTooLarge) (.ref CLoomError) = some true)
    (aT : PySem.W.kitAny K (.ref CTooLarge) ([CUnlike, CNoPlace, CNoSide, CBeyond].map Value.ref) = some false)
    (kcU : (PySem.W.clsIn K CUnlike).isSome = true)
    (kgaU : PySem.W.findIn K (.ref CUnlike) "__getattribute__" = some (some (.builtin "BaseException.__getattribute__")))
    (kgtU : PySem.W.findIn K (.ref CUnlike) "__getattr__" = some none)
    (kclU : PySem.W.findIn K (.ref CUnlike) "__class__" = some (some (.builtin "object.__class__")))
    (kmoU : PySem.W.mroIn K CUnlike (.type "object") = some true)
    (kmbU : PySem.W.mroIn K CUnlike (.type "BaseException") = some true)
    (iU : PySem.W.kitOne K (.ref CUnlike) (.ref CLoomError) = some true)
    (aU : PySem.W.kitAny K (.ref CUnlike) ([CTooLarge, CNoPlace, CNoSide, CBeyond].map Value.ref) = some false)
    (eTT : PySem.W.exmOne K (.ref CTooLarge) (.ref CTooLarge) = some true)
    (eUT : PySem.W.exmOne K (.ref CUnlike) (.ref CTooLarge) = some false)
    (eUU : PySem.W.exmOne K (.ref CUnlike) (.ref CUnlike) = some true)
    (e11 : PySem.W.exmOne K (.ref CNoPlace) (.ref CNoPlace) = some true)
    : ∃ fd : FuncData, (∀ (s : Shared) (v : Value), BindsTo s fd ⟨[v], []⟩ [("script", v)]) ∧ ∀ base : Heap, K.In base → base.Ns mainGlobals mg → FnOk l.prog w K mg base CX0 13 fa fd ["script"] (splaw K) := by
  have e := hfa.symm.trans (PySem.W.mg_of X G a22)
  cases e
  have F0 := fun_mk (st := samount) l0 q0 k0
  have b0 := F0.binds (ps := ["sides"]) fun _ _ _ _ _ _ us hl => by
    obtain ⟨_, rfl⟩ := us_len1 hl
    rfl
  have F1 := fun_mk (st := sbreadth) l1 q1 k1
  have b1 := F1.binds (ps := ["sides"]) fun _ _ _ _ _ _ us hl => by
    obtain ⟨_, rfl⟩ := us_len1 hl
    rfl
  have F2 := fun_mk (st := sallowed) l2 q2 k2
  have b2 := F2.binds (ps := ["sides"]) fun _ _ _ _ _ _ us hl => by
    obtain ⟨_, rfl⟩ := us_len1 hl
    rfl
  have F3 := fun_mk (st := sstridesof) l3 q3 k3
  have b3 := F3.binds (ps := ["sides"]) fun _ _ _ _ _ _ us hl => by
    obtain ⟨_, rfl⟩ := us_len1 hl
    rfl
  have F4 := fun_mk (st := splaceof) l4 q4 k4
  have b4 := F4.binds (ps := ["sides", "at"]) fun _ _ _ _ _ _ us hl => by
    obtain ⟨_, _, rfl⟩ := us_len2 hl
    rfl
  have F5 := fun_mk (st := satof) l5 q5 k5
  have b5 := F5.binds (ps := ["sides", "place"]) fun _ _ _ _ _ _ us hl => by
    obtain ⟨_, _, rfl⟩ := us_len2 hl
    rfl
  have F6 := fun_mk (st := sallat) l6 q6 k6
  have b6 := F6.binds (ps := ["sides"]) fun _ _ _ _ _ _ us hl => by
    obtain ⟨_, rfl⟩ := us_len1 hl
    rfl
  have F7 := fun_mk (st := swrapped) l7 q7 k7
  have b7 := F7.binds (ps := ["n"]) fun _ _ _ _ _ _ us hl => by
    obtain ⟨_, rfl⟩ := us_len1 hl
    rfl
  have F8 := fun_mk (st := stableof) l8 q8 k8
  have b8 := F8.binds (ps := ["sides", "cells"]) fun _ _ _ _ _ _ us hl => by
    obtain ⟨_, _, rfl⟩ := us_len2 hl
    rfl
  have F9 := fun_mk (st := salone) l9 q9 k9
  have b9 := F9.binds (ps := ["n"]) fun _ _ _ _ _ _ us hl => by
    obtain ⟨_, rfl⟩ := us_len1 hl
    rfl
  have F10 := fun_mk (st := scellat) l10 q10 k10
  have b10 := F10.binds (ps := ["tab", "at"]) fun _ _ _ _ _ _ us hl => by
    obtain ⟨_, _, rfl⟩ := us_len2 hl
    rfl
  have F11 := fun_mk (st := slawat) l11 q11 k11
  have b11 := F11.binds (ps := ["script", "k"]) fun _ _ _ _ _ _ us hl => by
    obtain ⟨_, _, rfl⟩ := us_len2 hl
    rfl
  have F12 := fun_mk (st := slawheld) l12 q12 k12
  have b12 := F12.binds (ps := ["found", "due"]) fun _ _ _ _ _ _ us hl => by
    obtain ⟨_, _, rfl⟩ := us_len2 hl
    rfl
  have F13 := fun_mk (st := slawnocell) l13 q13 k13
  have b13 := F13.binds (ps := ["tab", "at"]) fun _ _ _ _ _ _ us hl => by
    obtain ⟨_, _, rfl⟩ := us_len2 hl
    rfl
  have F14 := fun_mk (st := snested) l14 q14 k14
  have b14 := F14.binds (ps := ["tab"]) fun _ _ _ _ _ _ us hl => by
    obtain ⟨_, rfl⟩ := us_len1 hl
    rfl
  have F15 := fun_mk (st := slawcount) l15 q15 k15
  have b15 := F15.binds (ps := ["thing"]) fun _ _ _ _ _ _ us hl => by
    obtain ⟨_, rfl⟩ := us_len1 hl
    rfl
  have F16 := fun_mk (st := slawflat) l16 q16 k16
  have b16 := F16.binds (ps := ["thing", "sides"]) fun _ _ _ _ _ _ us hl => by
    obtain ⟨_, _, rfl⟩ := us_len2 hl
    rfl
  have F17 := fun_mk (st := slawownlists) l17 q17 k17
  have b17 := F17.binds (ps := ["tab", "sides", "size"]) fun _ _ _ _ _ _ us hl => by
    obtain ⟨_, _, _, rfl⟩ := us_len3 hl
    rfl
  have F18 := fun_mk (st := slawrefusal) l18 q18 k18
  have b18 := F18.binds (ps := ["sides", "cells"]) fun _ _ _ _ _ _ us hl => by
    obtain ⟨_, _, rfl⟩ := us_len2 hl
    rfl
  have F19 := fun_mk (st := slawsides) l19 q19 k19
  have b19 := F19.binds (ps := ["script"]) fun _ _ _ _ _ _ us hl => by
    obtain ⟨_, rfl⟩ := us_len1 hl
    rfl
  have F20 := fun_mk (st := slawcells) l20 q20 k20
  have b20 := F20.binds (ps := ["tab", "sides", "cells"]) fun _ _ _ _ _ _ us hl => by
    obtain ⟨_, _, _, rfl⟩ := us_len3 hl
    rfl
  have F21 := fun_mk (st := slawstrange) l21 q21 k21
  have b21 := F21.binds (ps := ["tab", "sides", "drawn"]) fun _ _ _ _ _ _ us hl => by
    obtain ⟨_, _, _, rfl⟩ := us_len3 hl
    rfl
  have F22 := fun_mk (st := slaw) l22 q22 k22
  have b22 := F22.binds (ps := ["script"]) fun _ _ _ _ _ _ us hl => by
    obtain ⟨_, rfl⟩ := us_len1 hl
    rfl
  refine ⟨PySem.W.fnOf "law" "law" (defArgs slaw) (defBody slaw) (defScope slaw) .none kV22 dc22 pm22 an22 cd22 ct22, fun s v => .of_eq rfl, fun base KB GB => ?_⟩
  have O_amount := okamount (P := l.prog) (w := w) (base := base) (mg := mg) F0
  have C_amount := Callee.mk' F0 (PySem.W.mg_of X G a0) b0 O_amount
  have O_breadth := okbreadth (P := l.prog) (w := w) (base := base) (mg := mg) F1 (C_amount.mono (by decide))
  have C_breadth := Callee.mk' F1 (PySem.W.mg_of X G a1) b1 O_breadth
  have O_allowed := okallowed (P := l.prog) (w := w) (base := base) (mg := mg) F2 nTooLarge (C_breadth.mono (by decide)) (PySem.W.mg_none_of X G zlen) (PySem.W.mg_of X G gMOST_SIDES) (PySem.W.mg_of X G gMOST_BREADTH) xTooLarge
  have C_allowed := Callee.mk' F2 (PySem.W.mg_of X G a2) b2 O_allowed
  have O_stridesof := okstridesof (P := l.prog) (w := w) (base := base) (mg := mg) F3 (PySem.W.mg_none_of X G ztuple) (PySem.W.mg_none_of X G zreversed)
  have C_stridesof := Callee.mk' F3 (PySem.W.mg_of X G a3) b3 O_stridesof
  have O_placeof := okplaceof (P := l.prog) (w := w) (base := base) (mg := mg) F4 nNoPlace (C_stridesof.mono (by decide)) (PySem.W.mg_none_of X G zlen) (PySem.W.mg_none_of X G zzip) (PySem.W.mg_none_of X G zsum) xNoPlace
  have C_placeof := Callee.mk' F4 (PySem.W.mg_of X G a4) b4 O_placeof
  have O_atof := okatof (P := l.prog) (w := w) (base := base) (mg := mg) F5 nNoPlace (C_amount.mono (by decide)) (PySem.W.mg_none_of X G zreversed) (PySem.W.mg_none_of X G ztuple) xNoPlace
  have C_atof := Callee.mk' F5 (PySem.W.mg_of X G a5) b5 O_atof
  have O_allat := okallat (P := l.prog) (w := w) (base := base) (mg := mg) F6 (C_atof.mono (by decide)) (C_amount.mono (by decide)) (PySem.W.mg_none_of X G zrange)
  have C_allat := Callee.mk' F6 (PySem.W.mg_of X G a6) b6 O_allat
  have O_wrapped := okwrapped (P := l.prog) (w := w) (base := base) (mg := mg) F7 (PySem.W.mg_of X G gLOW)
  have C_wrapped := Callee.mk' F7 (PySem.W.mg_of X G a7) b7 O_wrapped
  have O_tableof := oktableof (P := l.prog) (w := w) (base := base) (mg := mg) F8 nTooLarge nUnlike (C_allowed.mono (by decide)) (C_amount.mono (by decide)) (C_wrapped.mono (by decide)) (PySem.W.mg_none_of X G zlen) (PySem.W.mg_none_of X G ztuple) xUnlike
  have C_tableof := Callee.mk' F8 (PySem.W.mg_of X G a8) b8 O_tableof
  have O_alone := okalone (P := l.prog) (w := w) (base := base) (mg := mg) F9 nTooLarge nUnlike (C_tableof.mono (by decide))
  have C_alone := Callee.mk' F9 (PySem.W.mg_of X G a9) b9 O_alone
  have O_cellat := okcellat (P := l.prog) (w := w) (base := base) (mg := mg) F10 nNoPlace (C_placeof.mono (by decide))
  have C_cellat := Callee.mk' F10 (PySem.W.mg_of X G a10) b10 O_cellat
  have O_lawat := oklawat (P := l.prog) (w := w) (base := base) (mg := mg) F11 (PySem.W.mg_none_of X G zlen)
  have C_lawat := Callee.mk' F11 (PySem.W.mg_of X G a11) b11 O_lawat
  have O_lawheld := oklawheld (P := l.prog) (w := w) (base := base) (mg := mg) F12 (PySem.W.mg_none_of X G zisinstance) (PySem.W.mg_none_of X G zint) (PySem.W.mg_none_of X G zbool)
  have C_lawheld := Callee.mk' F12 (PySem.W.mg_of X G a12) b12 O_lawheld
  have O_lawnocell := oklawnocell (P := l.prog) (w := w) (base := base) (mg := mg) F13 nNoPlace (C_cellat.mono (by decide)) e11
  have C_lawnocell := Callee.mk' F13 (PySem.W.mg_of X G a13) b13 O_lawnocell
  have O_nested := oknestedA (P := l.prog) (w := w) (base := base) (mg := mg) F14 (C_stridesof.mono (by decide)) (PySem.W.mg_none_of X G zlen) (PySem.W.mg_none_of X G zrange) (PySem.W.mg_of X G a14) b14 8
  have C_nested := Callee.mk' F14 (PySem.W.mg_of X G a14) b14 O_nested
  have O_lawcount := oklawcountA (P := l.prog) (w := w) (base := base) (mg := mg) F15 (PySem.W.mg_none_of X G zisinstance) (PySem.W.mg_none_of X G zlist) (PySem.W.mg_none_of X G zsum) (PySem.W.mg_of X G a15) b15 9
  have C_lawcount := Callee.mk' F15 (PySem.W.mg_of X G a15) b15 O_lawcount
  have O_lawflat := oklawflatA (P := l.prog) (w := w) (base := base) (mg := mg) F16 (PySem.W.mg_none_of X G zisinstance) (PySem.W.mg_none_of X G zlist) (PySem.W.mg_none_of X G zlen) (PySem.W.mg_of X G a16) b16 8
  have C_lawflat := Callee.mk' F16 (PySem.W.mg_of X G a16) b16 O_lawflat
  have O_lawownlists := oklawownlists (P := l.prog) (w := w) (base := base) (mg := mg) F17 (C_nested.mono (by decide)) (C_allat.mono (by decide)) (C_lawcount.mono (by decide)) (PySem.W.mg_none_of X G zlen) (PySem.W.mg_none_of X G zrange)
  have C_lawownlists := Callee.mk' F17 (PySem.W.mg_of X G a17) b17 O_lawownlists
  have O_lawrefusal := oklawrefusal (P := l.prog) (w := w) (base := base) (mg := mg) F18 nBeyond nLoomError nNoPlace nNoSide nTooLarge nUnlike (C_tableof.mono (by decide)) (PySem.W.mg_none_of X G zstr) (PySem.W.mg_none_of X G zisinstance) ⟨kcT, kgaT, kgtT, kclT, kmoT, kmbT⟩ iT aT ⟨kcU, kgaU, kgtU, kclU, kmoU, kmbU⟩ iU aU eTT eUT eUU
  have C_lawrefusal := Callee.mk' F18 (PySem.W.mg_of X G a18) b18 O_lawrefusal
  have O_lawsides := oklawsides (P := l.prog) (w := w) (base := base) (mg := mg) F19 (C_lawat.mono (by decide)) (PySem.W.mg_none_of X G zrange) (PySem.W.mg_none_of X G zmax) (PySem.W.mg_none_of X G zlen) (PySem.W.mg_none_of X G ztuple)
  have C_lawsides := Callee.mk' F19 (PySem.W.mg_of X G a19) b19 O_lawsides
  have O_lawcells := oklawcells (P := l.prog) (w := w) (base := base) (mg := mg) F20 nNoPlace (C_allat.mono (by decide)) (C_nested.mono (by decide)) (C_lawflat.mono (by decide)) (C_lawheld.mono (by decide)) (C_cellat.mono (by decide)) (PySem.W.mg_none_of X G zisinstance) (PySem.W.mg_none_of X G ztuple) (PySem.W.mg_none_of X G zlist) (PySem.W.mg_none_of X G zint) (PySem.W.mg_none_of X G zbool) (PySem.W.mg_none_of X G zlen) (PySem.W.mg_none_of X G zrange) (PySem.W.mg_none_of X G zzip)
  have C_lawcells := Callee.mk' F20 (PySem.W.mg_of X G a20) b20 O_lawcells
  have O_lawstrange := oklawstrange (P := l.prog) (w := w) (base := base) (mg := mg) F21 (C_lawnocell.mono (by decide)) (PySem.W.mg_none_of X G zlen) (PySem.W.mg_none_of X G zrange) (PySem.W.mg_none_of X G ztuple) (PySem.W.mg_none_of X G zmax)
  have C_lawstrange := Callee.mk' F21 (PySem.W.mg_of X G a21) b21 O_lawstrange
  have O_law := oklaw (P := l.prog) (w := w) (base := base) (mg := mg) F22 nTooLarge nUnlike (C_lawsides.mono (by decide)) (C_lawat.mono (by decide)) (C_tableof.mono (by decide)) (C_lawcells.mono (by decide)) (C_lawstrange.mono (by decide)) (C_lawownlists.mono (by decide)) (C_alone.mono (by decide)) (C_lawheld.mono (by decide)) (C_nested.mono (by decide)) (C_lawrefusal.mono (by decide)) (PySem.W.mg_none_of X G zrange) (PySem.W.mg_none_of X G zlen) (PySem.W.mg_none_of X G zlist) (PySem.W.mg_none_of X G ztuple) (PySem.W.mg_none_of X G zisinstance)
  exact O_law
theorem walk {l : PySem.W.OpenLaw} {q : Program} {loose : List Str} {XP : (Str → Option Value) → Heap → Prop} {YP : World → Heap → Prop} {d : DefRec} {K : Params → PySem.W.Frag} (hn : l.most = some 63) (hdf : d.params.defaults = [])
    (hY : ∀ (w : World) (h : Heap), YP w h → (K w.params).In h)
    (F : ∀ (w : World) (mg : Str → Option Value) (fa : Addr) (h : Heap), (K w.params).In h → h.Ns mainGlobals mg → mg d.name = some (.ref fa) →
      ∃ fd : FuncData, (∀ (s : Shared) (u : Value), BindsTo s fd ⟨[u], []⟩ [("script", u)]) ∧ ∀ base : Heap, (K w.params).In base → base.Ns mainGlobals mg → FnOk l.prog w (K w.params) mg base (CX0) 13 fa fd ["script"] (splaw (K w.params))) :
    PySem.W.WalkO q loose XP YP l.row.toRowW d [] (fun f vs => PySem.call f vs) :=
  L2.walk_of (n := 63) (k := 13) (x := "script") (CX := fun _ => CX0) (sp := fun w => splaw (K w.params)) hn (by decide) hdf ⟨rfl, by decide, by decide⟩ hY F (fun _ _ a ns hl hfew hS => ⟨a, ns, rfl, hS, hl, fun _ => rfl⟩) fun _ _ _ _ _ z => z
end My
open PySem PySem.W PyProof.Rows
set_option maxRecDepth 100000 in
set_option maxHeartbeats 0 in
theorem PySem.Challenge.cw_sideloom_k09_whole_tables_holds : PySem.Challenge.rw_sideloom_k09_whole_tables.Holds := by
  w_on; o_law; k_head; (case hw => w_witness2)
  k_fill
  refine My.walk (l := PySem.Challenge.rw_sideloom_k09_whole_tables) rfl rfl (fun w h Y => PySem.W.kIn_of Y) ?F
  case F =>
    intro w mg fa h KX G hmg
    refine' My.all_mk KX G hmg ?a0 ?l0 ?q0 ?k0 ?a1 ?l1 ?q1 ?k1 ?a2 ?l2 ?q2 ?k2 ?a3 ?l3 ?q3 ?k3 ?a4 ?l4 ?q4 ?k4 ?a5 ?l5 ?q5 ?k5 ?a6 ?l6 ?q6 ?k6 ?a7 ?l7 ?q7 ?k7 ?a8 ?l8 ?q8 ?k8 ?a9 ?l9 ?q9 ?k9 ?a10 ?l10 ?q10 ?k10 ?a11 ?l11 ?q11 ?k11 ?a12 ?l12 ?q12 ?k12 ?a13 ?l13 ?q13 ?k13 ?a14 ?l14 ?q14 ?k14 ?a15 ?l15 ?q15 ?k15 ?a16 ?l16 ?q16 ?k16 ?a17 ?l17 ?q17 ?k17 ?a18 ?l18 ?q18 ?k18 ?a19 ?l19 ?q19 ?k19 ?a20 ?l20 ?q20 ?k20 ?a21 ?l21 ?q21 ?k21 ?a22 ?l22 ?q22 ?k22 ?zlen ?ztuple ?zreversed ?zzip ?zsum ?zrange ?zisinstance ?zint ?zbool ?zlist ?zstr ?zmax ?gMOST_SIDES ?gMOST_BREADTH ?gLOW ?nTooLarge ?nNoPlace ?nUnlike ?nBeyond ?nLoomError ?nNoSide ?xTooLarge ?xUnlike ?xNoPlace ?kcT ?kgaT ?kgtT ?kclT ?kmoT ?kmbT ?iT ?aT ?kcU ?kgaU ?kgtU ?kclU ?kmoU ?kmbU ?iU ?aU ?eTT ?eUT ?eUU ?e11
    (case a0 => k_is)
    (case l0 => k_is)
    (case q0 => k_is)
    (case k0 => k_is)
    (case a1 => k_is)
    (case l1 => k_is)
    (case q1 => k_is)
    (case k1 => k_is)
    (case a2 => k_is)
    (case l2 => k_is)
    (case q2 => k_is)
    (case k2 => k_is)
    (case a3 => k_is)
    (case l3 => k_is)
    (case q3 => k_is)
    (case k3 => k_is)
    (case a4 => k_is)
    (case l4 => k_is)
    (case q4 => k_is)
    (case k4 => k_is)
    (case a5 => k_is)
    (case l5 => k_is)
    (case q5 => k_is)
    (case k5 => k_is)
    (case a6 => k_is)
    (case l6 => k_is)
    (case q6 => k_is)
    (case k6 => k_is)
    (case a7 => k_is)
    (case l7 => k_is)
    (case q7 => k_is)
    (case k7 => k_is)
    (case a8 => k_is)
    (case l8 => k_is)
    (case q8 => k_is)
    (case k8 => k_is)
    (case a9 => k_is)
    (case l9 => k_is)
    (case q9 => k_is)
    (case k9 => k_is)
    (case a10 => k_is)
    (case l10 => k_is)
    (case q10 => k_is)
    (case k10 => k_is)
    (case a11 => k_is)
    (case l11 => k_is)
    (case q11 => k_is)
    (case k11 => k_is)
    (case a12 => k_is)
    (case l12 => k_is)
    (case q12 => k_is)
    (case k12 => k_is)
    (case a13 => k_is)
    (case l13 => k_is)
    (case q13 => k_is)
    (case k13 => k_is)
    (case a14 => k_is)
    (case l14 => k_is)
    (case q14 => k_is)
    (case k14 => k_is)
    (case a15 => k_is)
    (case l15 => k_is)
    (case q15 => k_is)
    (case k15 => k_is)
    (case a16 => k_is)
    (case l16 => k_is)
    (case q16 => k_is)
    (case k16 => k_is)
    (case a17 => k_is)
    (case l17 => k_is)
    (case q17 => k_is)
    (case k17 => k_is)
    (case a18 => k_is)
    (case l18 => k_is)
    (case q18 => k_is)
    (case k18 => k_is)
    (case a19 => k_is)
    (case l19 => k_is)
    (case q19 => k_is)
    (case k19 => k_is)
    (case a20 => k_is)
    (case l20 => k_is)
    (case q20 => k_is)
    (case k20 => k_is)
    (case a21 => k_is)
    (case l21 => k_is)
    (case q21 => k_is)
    (case k21 => k_is)
    (case a22 => k_is)
    (case l22 => k_is)
    (case q22 => k_is)
    (case k22 => k_is)
    (case zlen => k_is)
    (case ztuple => k_is)
    (case zreversed => k_is)
    (case zzip => k_is)
    (case zsum => k_is)
    (case zrange => k_is)
    (case zisinstance => k_is)
    (case zint => k_is)
    (case zbool => k_is)
    (case zlist => k_is)
    (case zstr => k_is)
    (case zmax => k_is)
    (case gMOST_SIDES => k_is)
    (case gMOST_BREADTH => k_is)
    (case gLOW => k_is)
    (case nTooLarge => k_is)
    (case nNoPlace => k_is)
    (case nUnlike => k_is)
    (case nBeyond => k_is)
    (case nLoomError => k_is)
    (case nNoSide => k_is)
    (case xTooLarge => k_exc)
    (case xUnlike => k_exc)
    (case xNoPlace => k_exc)
    (case kcT => exact Option.isSome_iff_exists.mpr ⟨_, by k_is⟩)
    (case kgaT => k_is)
    (case kgtT => k_is)
    (case kclT => k_is)
    (case kmoT => k_is)
    (case kmbT => k_is)
    (case iT => kit_is)
    (case aT => kit_is)
    (case kcU => exact Option.isSome_iff_exists.mpr ⟨_, by k_is⟩)
    (case kgaU => k_is)
    (case kgtU => k_is)
    (case kclU => k_is)
    (case kmoU => k_is)
    (case kmbU => k_is)
    (case iU => kit_is)
    (case aU => kit_is)
    (case eTT => kts_exm)
    (case eUT => kts_exm)
    (case eUU => kts_exm)
    (case e11 => kts_exm)
