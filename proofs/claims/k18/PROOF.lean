import PyProof.Rows.All
import Wide.All
import OpenK.AllK
import Wide.FinOn
import Lean
import PyProof.EqAt
import PyProof.EqKinds
import PyProof.TupleCall
import PySem.Challenge.RW_loopbed_k18_passes
set_option Elab.async false
set_option linter.all false
set_option maxRecDepth 100000
namespace L2
open PySem PySem.Spec PyProof.Rows
noncomputable abbrev Key := Sum Int Str
noncomputable def keyIs : Key → Value → Bool
  | .inl k, v => Value.isInt k v
  | .inr x, v => Value.isStrOf x v
noncomputable def keyH (w : World) : Key → Int
  | .inl k => hashInt k
  | .inr x => hashStr w x
theorem keyIs_shape : ∀ {k : Key} {v : Value}, keyIs k v = true → (∃ i t, k = Sum.inl i ∧ v = Value.int i t) ∨ (∃ x t, k = Sum.inr x ∧ v = Value.str x t)
  | .inl i, v, h => by
    obtain ⟨t, e⟩ := Value.isInt_shape (k := i) (v := v) h
    exact .inl ⟨i, t, rfl, e⟩
  | .inr x, v, h => by
    obtain ⟨t, e⟩ := Value.isStrOf_shape (x := x) (v := v) h
    exact .inr ⟨x, t, rfl, e⟩
theorem keyIs_int (i : Int) (t : Tok) : keyIs (.inl i) (.int i t) = true := by simp [keyIs, Value.isInt]
theorem keyIs_str (x : Str) (t : Tok) : keyIs (.inr x) (.str x t) = true := by simp [keyIs, Value.isStrOf]
theorem key_ll (a b : Int) : decide ((Sum.inl a : Key) = Sum.inl b) = (a == b) := by
  by_cases e : a = b
  · subst e; simp
  · have h : ¬ (Sum.inl a : Key) = Sum.inl b := fun q => e (Sum.inl.inj q)
    rw [decide_eq_false h]
    exact (beq_eq_false_iff_ne.mpr e).symm
theorem key_rr (a b : Str) : decide ((Sum.inr a : Key) = Sum.inr b) = decide (a = b) := by
  by_cases e : a = b
  · subst e; simp
  · have h : ¬ (Sum.inr a : Key) = Sum.inr b := fun q => e (Sum.inr.inj q)
    rw [decide_eq_false h, decide_eq_false e]
theorem key_lr (a : Int) (b : Str) : decide ((Sum.inl a : Key) = Sum.inr b) = false := decide_eq_false (fun q => nomatch q)
theorem key_rl (a : Str) (b : Int) : decide ((Sum.inr a : Key) = Sum.inl b) = false := decide_eq_false (fun q => nomatch q)
noncomputable def mixKind (prog : Program) (w : World) : PySem.KeyKind prog w Key where
  is := keyIs
  hash := keyH w
  inj := fun v a b ha hb => by
    rcases keyIs_shape ha with ⟨i, t, rfl, rfl⟩ | ⟨x, t, rfl, rfl⟩
    · rcases keyIs_shape hb with ⟨j, u, rfl, e⟩ | ⟨y, u, rfl, e⟩
      · injection e with e1 _; rw [e1]
      · exact nomatch e
    · rcases keyIs_shape hb with ⟨j, u, rfl, e⟩ | ⟨y, u, rfl, e⟩
      · exact nomatch e
      · injection e with e1 _; rw [e1]
  byValue := fun k v h => by
    rcases keyIs_shape h with ⟨i, t, rfl, rfl⟩ | ⟨x, t, rfl, rfl⟩ <;> rfl
  pyHash := fun hv h => by
    rcases keyIs_shape hv with ⟨i, t, rfl, rfl⟩ | ⟨x, t, rfl, rfl⟩
    · exact wpAny_pyHash_int h
    · exact wpAny_pyHash_str h
  eqBool := fun hu hv h => by
    rcases keyIs_shape hu with ⟨i, t, rfl, rfl⟩ | ⟨x, t, rfl, rfl⟩
    · rcases keyIs_shape hv with ⟨j, u, rfl, rfl⟩ | ⟨y, u, rfl, rfl⟩
      · rw [key_ll] at h; exact wpAny_eqBool_int h
      · rw [key_lr] at h; exact SeqAt.EqAt.int_str i t y u _ _ _ _ h
    · rcases keyIs_shape hv with ⟨j, u, rfl, rfl⟩ | ⟨y, u, rfl, rfl⟩
      · rw [key_rl] at h; exact SeqAt.EqAt.str_int x t j u _ _ _ _ h
      · rw [key_rr] at h; exact wpAny_eqBool_str h
  «strs» := fun k x t v h => by
    rcases keyIs_shape h with ⟨i, u, rfl, e⟩ | ⟨y, u, rfl, e⟩
    · exact nomatch e
    · injection e with e1 _
      subst e1
      cases v <;> rfl
theorem mixKind_int (prog : Program) (w : World) (i : Int) (t : Tok) : (mixKind prog w).is (.inl i) (.int i t) = true := keyIs_int i t
theorem mixKind_str (prog : Program) (w : World) (x : Str) (t : Tok) : (mixKind prog w).is (.inr x) (.str x t) = true := keyIs_str x t
end L2
namespace L2
open PySem PySem.Spec PyProof.Rows
inductive V where
  | non | bl (b : Bool) | int (i : Int) | str (x : Str) | byt (b : Array UInt8) | flt (b : UInt64) | ref (a : Addr) | ty (n : String)
  deriving DecidableEq
noncomputable def RelV : V → Value → Prop
  | .non, u => u = Value.none
  | .bl b, u => u = Value.bool b
  | .int i, u => ∃ t, u = Value.int i t
  | .str x, u => ∃ t, u = Value.str x t
  | .byt b, u => ∃ t, u = Value.bytes b t
  | .flt b, u => ∃ t, u = Value.float b t
  | .ref a, u => u = Value.ref a
  | .ty n, u => u = Value.type n
noncomputable abbrev Vals : List V → List Value → Prop := Paired RelV
theorem Vals.length {xs : List V} {us : List Value} (r : Vals xs us) : xs.length = us.length := Paired.length r
theorem Vals.get : ∀ {xs : List V} {us : List Value} {i : Nat} {x : V}, Vals xs us → xs[i]? = some x → ∃ u, us[i]? = some u ∧ RelV x u
  | _, _, _, _, .nil, e => by simp at e
  | _, _, 0, _, .cons r _, e => by simp at e; subst e; exact ⟨_, rfl, r⟩
  | _, _, i + 1, x, .cons _ t, e => by
    obtain ⟨u, h1, h2⟩ := Vals.get (i := i) (x := x) t (by simpa using e)
    exact ⟨u, by simpa using h1, h2⟩
theorem Vals.set {x : V} {u : Value} (r : RelV x u) : ∀ {xs : List V} {us : List Value} (i : Nat), Vals xs us → Vals (xs.set i x) (us.set i u)
  | _, _, _, .nil => .nil
  | _, _, 0, .cons _ t => .cons r t
  | _, _, i + 1, .cons q t => .cons q (Vals.set r i t)
theorem Vals.append : ∀ {xs ys : List V} {us ws : List Value}, Vals xs us → Vals ys ws → Vals (xs ++ ys) (us ++ ws)
  | _, _, _, _, .nil, s => s
  | _, _, _, _, .cons r t, s => .cons r (Vals.append t s)
theorem Vals.take : ∀ {xs : List V} {us : List Value} (n : Nat), Vals xs us → Vals (xs.take n) (us.take n)
  | _, _, 0, _ => .nil
  | _, _, _ + 1, .nil => .nil
  | _, _, n + 1, .cons r t => .cons r (Vals.take n t)
theorem Vals.drop : ∀ {xs : List V} {us : List Value} (n : Nat), Vals xs us → Vals (xs.drop n) (us.drop n)
  | _, _, 0, r => r
  | _, _, _ + 1, .nil => .nil
  | _, _, n + 1, .cons _ t => Vals.drop n t
noncomputable def RelO : Option V → Option Value → Prop
  | some v, some u => RelV v u
  | none, none => True
  | _, _ => False
noncomputable def KV {κ : Type} : List (κ × V) → List (κ × Value) → Prop := Paired fun (p : κ × V) (q : κ × Value) => p.1 = q.1 ∧ RelV p.2 q.2
noncomputable def kV : Key → V
  | .inl i => .int i
  | .inr x => .str x
inductive HO where
  | lst (xs : List V)
  | tup (xs : List V)
  | dK (kvs : List (Key × V)) | dT (kvs : List (List Key × V))
  | set (S : Int → Bool) (n : Nat)
  | ins (C dx : Addr) (fs : List (Str × V))
  | own (x : Addr)
  | xd (fs : List (Str × V))
  | met (f x : Addr)
  | rng (lo hi : Int)
  | frz (o : Obj) (u : HO)
  | tbl (ps : Array Value)
  | ext (φ : Heap → Prop)
noncomputable abbrev Hp := Addr → Option HO
noncomputable def upd (H : Hp) (a : Addr) (o : HO) : Hp := fun b => if b = a then some o else H b
theorem upd_same {H : Hp} {a : Addr} {o : HO} : upd H a o a = some o := by unfold upd; rw [if_pos rfl]
theorem upd_ne {H : Hp} {a b : Addr} {o : HO} (h : b ≠ a) : upd H a o b = H b := by unfold upd; rw [if_neg h]
theorem ne_of {H : Hp} {a b : Addr} {o u : HO} (h : H a = some o) (h' : H b = some u) (d : o ≠ u) : a ≠ b := by
  intro e; subst e; rw [h] at h'; exact d (Option.some.inj h')
theorem ne_of_none {H : Hp} {a b : Addr} {o : HO} (h : H a = some o) (h' : H b = none) : a ≠ b := by
  intro e; subst e; rw [h] at h'; cases h'
section
variable (P : Program) (w : World)
noncomputable def ObjOk (H : Hp) (h : Heap) (a : Addr) : HO → Prop
  | .lst xs => xs.length ≤ sizeLine ∧ ∃ (its : List Value) (n : Nat), Vals xs its ∧ h.get? a = some { cls := .type "list", data := .seq its.toArray n }
  | .tup xs => xs.length ≤ sizeLine ∧ ∃ its : List Value, Vals xs its ∧ IsTup h a its.toArray
  | .dK kvs => kvs.length ≤ sizeLine ∧ (a == sysModules) = false ∧ ∃ vs, KV kvs vs ∧ h.DictOf (mixKind P w) a vs
  | .dT kvs => kvs.length ≤ sizeLine ∧ (a == sysModules) = false ∧ ∃ xs : List (List Key × Addr × Value),
      Paired (fun (p : List Key × V) (q : List Key × Addr × Value) => p.1 = q.1 ∧ H q.2.1 = some (.tup (p.1.map kV)) ∧ RelV p.2 q.2.2) kvs xs ∧
      ∃ o es ep, h.get? a = some o ∧ o.ExactDict ∧ o.data = .dict es ep ∧ es.toList = xs.map (entryOfKey (tupleKind (mixKind P w))) ∧ (xs.map (·.1)).Nodup
  | .set S n => h.SetOf (intKind P w) a S n
  | .ins C dx fs => H dx = some (.own a) ∧ fs.length ≤ 1000 ∧ dx ≠ a ∧ h.get? a = some (PySem.W.instObj C dx) ∧
      ∃ mA, h.Ns1 dx mA ∧ (∀ f, RelO (fs.lookup f) (mA f)) ∧ PySem.Within mA (fs.map (·.1))
  | .own _ => ∃ o, h.get? a = some o
  | .xd fs => ∃ mA, h.Ns1 a mA ∧ ∀ f, RelO (fs.lookup f) (mA f)
  | .rng lo hi => ∃ t u v, h.get? a = some { cls := .type "range", data := .fields #[.int lo t, .int hi u, .int 1 v] }
  | .frz o u => h.get? a = some o ∧ ObjOk H h a u
  | .tbl ps => h.get? a = some { cls := .none, data := .fields ps }
  | .met f x => h.get? a = some (PySem.W.methodObj (.ref f) (.ref x))
  | .ext φ => φ h ∧ (∃ o, h.get? a = some o) ∧ ∀ h1 h2 : Heap, φ h1 → (∀ o, h1.get? a = some o → h2.get? a = some o) → φ h2
noncomputable def HOk (H : Hp) (h : Heap) : Prop := ∀ a o, H a = some o → ObjOk P w H h a o
end
section
variable {P : Program} {w : World} {H H' : Hp} {h h' : Heap} {a : Addr} {o : HO}
theorem ObjOk.lt (x : ObjOk P w H h a o) : a < h.objs.size := by
  cases o with
  | lst xs => obtain ⟨_, _, _, _, e⟩ := x; exact Heap.lt_size e
  | tup xs => obtain ⟨_, _, _, p⟩ := x; exact p.lt
  | dK kvs => obtain ⟨_, _, _, _, o, _, _, e, _⟩ := x; exact Heap.lt_size e
  | dT kvs => obtain ⟨_, _, _, _, o, _, _, e, _⟩ := x; exact Heap.lt_size e
  | set S n => obtain ⟨o, _, _, _, e, _⟩ := x; exact Heap.lt_size e
  | ins C dx fs => obtain ⟨_, _, _, e, _⟩ := x; exact Heap.lt_size e
  | own y => obtain ⟨_, e⟩ := x; exact Heap.lt_size e
  | xd fs => obtain ⟨_, ⟨_, _, _, e, _⟩, _⟩ := x; exact Heap.lt_size e
  | rng lo hi => obtain ⟨_, _, _, e⟩ := x; exact Heap.lt_size e
  | frz ob u => obtain ⟨e, _⟩ := x; exact Heap.lt_size e
  | tbl ps => exact Heap.lt_size (show h.get? a = some _ from x)
  | met f y => exact Heap.lt_size (show h.get? a = some _ from x)
  | ext φ => obtain ⟨_, ⟨_, e⟩, _⟩ := x; exact Heap.lt_size e
theorem Paired.mapP {α β : Type} {F G : α → β → Prop} : ∀ {l₁ : List α} {l₂ : List β}, Paired F l₁ l₂ → (∀ a b, F a b → G a b) → Paired G l₁ l₂
  | _, _, .nil, _ => .nil
  | _, _, .cons r t, f => .cons (f _ _ r) (Paired.mapP t f)
theorem ObjOk.stay (x : ObjOk P w H h a o) (k : ∀ b u, (b = a ∨ H b = some (.own a)) → h.get? b = some u → h'.get? b = some u)
    (ho : ∀ b, H b = some (.own a) → H' b = some (.own a)) (ht : ∀ b xs, H b = some (.tup xs) → H' b = some (.tup xs)) : ObjOk P w H' h' a o := by
  induction o with
  | lst xs => obtain ⟨z, its, n, r, e⟩ := x; exact ⟨z, its, n, r, k _ _ (.inl rfl) e⟩
  | tup xs => obtain ⟨z, its, r, ob, e, c⟩ := x; exact ⟨z, its, r, ob, k _ _ (.inl rfl) e, c⟩
  | dK kvs => obtain ⟨z, y, vs, r, ob, es, ep, e, c⟩ := x; exact ⟨z, y, vs, r, ob, es, ep, k _ _ (.inl rfl) e, c⟩
  | dT kvs =>
    obtain ⟨z, y, xs, r, ob, es, ep, e, c⟩ := x
    exact ⟨z, y, xs, Paired.mapP r fun p q z => ⟨z.1, ht _ _ z.2.1, z.2.2⟩, ob, es, ep, k _ _ (.inl rfl) e, c⟩
  | set S n => obtain ⟨ob, es, ep, t, e, c⟩ := x; exact ⟨ob, es, ep, t, k _ _ (.inl rfl) e, c⟩
  | ins C dx fs =>
    obtain ⟨d, z, ne, e, mA, ⟨od, es, ep, e2, c⟩, r⟩ := x
    exact ⟨ho _ d, z, ne, k _ _ (.inl rfl) e, mA, ⟨od, es, ep, k _ _ (.inr d) e2, c⟩, r⟩
  | own y => obtain ⟨ob, e⟩ := x; exact ⟨ob, k _ _ (.inl rfl) e⟩
  | xd fs => obtain ⟨mA, ⟨od, es, ep, e, c⟩, r⟩ := x; exact ⟨mA, ⟨od, es, ep, k _ _ (.inl rfl) e, c⟩, r⟩
  | rng lo hi => obtain ⟨t, u, v, e⟩ := x; exact ⟨t, u, v, k _ _ (.inl rfl) e⟩
  | frz ob u ih => obtain ⟨e, q⟩ := x; exact ⟨k _ _ (.inl rfl) e, ih q⟩
  | tbl ps =>
    have e : h.get? a = some { cls := .none, data := .fields ps } := x
    show h'.get? a = some { cls := .none, data := .fields ps }
    exact k a _ (.inl rfl) e
  | met f y =>
    have e : h.get? a = some (PySem.W.methodObj (.ref f) (.ref y)) := x
    show h'.get? a = some (PySem.W.methodObj (.ref f) (.ref y))
    exact k a _ (.inl rfl) e
  | ext φ => obtain ⟨p, ⟨o, e⟩, st⟩ := x; exact ⟨st _ _ p fun o q => k _ _ (.inl rfl) q, ⟨o, k _ _ (.inl rfl) e⟩, st⟩
theorem HOk.lt (x : HOk P w H h) (e : H a = some o) : a < h.objs.size := (x a o e).lt
theorem HOk.fresh (x : HOk P w H h) (e : h.objs.size ≤ a) : H a = none := by
  cases q : H a with
  | none => rfl
  | some u => exact absurd (Nat.lt_of_lt_of_le (x.lt q) e) (Nat.lt_irrefl _)
theorem HOk.kept (x : HOk P w H h) (k : ∀ b u, h.get? b = some u → h'.get? b = some u) : HOk P w H h' := fun a o e =>
  (x a o e).stay (fun b u _ q => k b u q) (fun _ q => q) fun _ _ q => q
theorem HOk.laid (x : HOk P w H h) (k : ∀ b u, h.get? b = some u → h'.get? b = some u) (hp : h.objs.size ≤ a) (new : ObjOk P w (upd H a o) h' a o) : HOk P w (upd H a o) h' := fun b u e => by
  have hn := x.fresh hp
  by_cases hb : b = a
  · subst hb; rw [upd_same] at e; cases e; exact new
  · rw [upd_ne hb] at e
    exact (x b u e).stay (fun c v _ q => k c v q) (fun c q => by rw [upd_ne (ne_of_none q hn)]; exact q) fun c xs q => by rw [upd_ne (ne_of_none q hn)]; exact q
end
noncomputable def Rd (H : Hp) (a : Addr) (u : HO) : Prop := H a = some u ∨ ∃ o, H a = some (.frz o u)
theorem Rd.of {H : Hp} {a : Addr} {u : HO} (h : H a = some u) : Rd H a u := .inl h
theorem Rd.ok {P : Program} {w : World} {H : Hp} {h : Heap} {a : Addr} {u : HO} (r : Rd H a u) (x : HOk P w H h) : ObjOk P w H h a u := by
  rcases r with r | ⟨o, r⟩
  · exact x a u r
  · obtain ⟨_, q⟩ := x a _ r
    exact q
noncomputable def Mut : Option HO → Prop
  | some (.lst _) => True
  | some (.dK _) => True
  | some (.dT _) => True
  | some (.set _ _) => True
  | some (.ins _ _ _) => True
  | some (.ext _) => True
  | _ => False
section
variable {P : Program} {w : World} {H : Hp} {h h' : Heap} {x e : Addr} {o' : HO}
theorem HOk.write (ok : HOk P w H h) (mu : Mut (H x)) (he : e = x ∨ H e = some (.own x)) (k : ∀ b u, b ≠ e → h.get? b = some u → h'.get? b = some u) (heo : ∃ u, h'.get? e = some u)
    (new : ObjOk P w (upd H x o') h' x o') : HOk P w (upd H x o') h' := fun b u q => by
  have nown : ∀ c y, H c = some (.own y) → c ≠ x := fun c y r z => by subst z; rw [r] at mu; exact mu
  have ntup : ∀ c xs, H c = some (.tup xs) → c ≠ x := fun c xs r z => by subst z; rw [r] at mu; exact mu
  by_cases hb : b = x
  · subst hb; rw [upd_same] at q; cases q; exact new
  · rw [upd_ne hb] at q
    by_cases hbe : b = e
    · have q' : H b = some (.own x) := by
        rcases he with z | z
        · exact absurd (hbe.trans z) hb
        · rw [hbe]; exact z
      rw [q] at q'; cases q'
      obtain ⟨v, hv⟩ := heo
      exact ⟨v, by rw [hbe]; exact hv⟩
    · refine (ok b u q).stay (fun c v hc r => k c v ?_ r) (fun c r => by rw [upd_ne (nown c b r)]; exact r) fun c xs r => by rw [upd_ne (ntup c xs r)]; exact r
      rcases hc with rfl | hc
      · exact hbe
      · rintro rfl
        rcases he with z | z
        · exact nown c b hc z
        · rw [hc] at z; cases z; exact hb rfl
end
structure Un (fs ex : List Addr) (H H' : Hp) (h h' : Heap) : Prop where
  keep : ∀ b o, h.get? b = some o → H b = none → b ∉ fs → b ∉ ex → h'.get? b = some o
  slot : ∀ b o, h.get? b = some o → H b = none → b ∈ fs → b ∉ ex → ∃ sl, h'.get? b = some { o with slots := sl }
  free : ∀ b o, h.get? b = some o → H b = none → b ∉ ex → H' b = none
  there : ∀ b o, h.get? b = some o → b ∉ ex → ∃ o', h'.get? b = some o'
  tups : ∀ b xs, H b = some (.tup xs) → H' b = some (.tup xs)
  frzs : ∀ b o u, H b = some (.frz o u) → H' b = some (.frz o u)
  tbls : ∀ b ps, H b = some (.tbl ps) → ∃ more, H' b = some (.tbl (ps ++ more))
section
variable {fs fs' ex ex' : List Addr} {H H1 H2 : Hp} {h h1 h2 h' : Heap} {a x e : Addr} {o : HO}
theorem Un.any (u : Un fs ex H H1 h h1) {b : Addr} {ob : Obj} (q : h.get? b = some ob) (n : H b = none) (hx : b ∉ ex) : ∃ sl, h1.get? b = some { ob with slots := sl } := by
  by_cases hb : b ∈ fs
  · exact u.slot b ob q n hb hx
  · exact ⟨ob.slots, u.keep b ob q n hb hx⟩
theorem Un.trans (a : Un fs ex H H1 h h1) (b : Un fs ex H1 H2 h1 h2) : Un fs ex H H2 h h2 where
  keep := fun c ob q n hc hx => b.keep c ob (a.keep c ob q n hc hx) (a.free c ob q n hx) hc hx
  slot := fun c ob q n hc hx => by
    obtain ⟨sl, e1⟩ := a.slot c ob q n hc hx
    obtain ⟨sl', e2⟩ := b.slot c _ e1 (a.free c ob q n hx) hc hx
    exact ⟨sl', e2⟩
  free := fun c ob q n hx => by
    obtain ⟨o', e1⟩ := a.there c ob q hx
    exact b.free c o' e1 (a.free c ob q n hx) hx
  there := fun c ob q hx => by
    obtain ⟨o', e1⟩ := a.there c ob q hx
    exact b.there c o' e1 hx
  tups := fun c xs q => b.tups c xs (a.tups c xs q)
  frzs := fun c ob xs q => b.frzs c ob xs (a.frzs c ob xs q)
  tbls := fun c ps q => by
    obtain ⟨m1, e1⟩ := a.tbls c ps q
    obtain ⟨m2, e2⟩ := b.tbls c _ e1
    exact ⟨m1 ++ m2, by rw [e2, Array.append_assoc]⟩
theorem Un.kept (k : ∀ b u, h.get? b = some u → h'.get? b = some u) : Un fs ex H H h h' :=
  ⟨fun b ob q _ _ _ => k b ob q, fun b ob q _ _ _ => ⟨ob.slots, k b ob q⟩, fun _ _ _ n _ => n, fun b ob q _ => ⟨ob, k b ob q⟩, fun _ _ q => q, fun _ _ _ q => q, fun _ ps q => ⟨#[], by rw [q]; simp⟩⟩
theorem Un.refl : Un fs ex H H h h := Un.kept fun _ _ q => q
theorem Un.laid (k : ∀ b u, h.get? b = some u → h'.get? b = some u) (hp : h.objs.size ≤ a) (hn : H a = none) : Un fs ex H (upd H a o) h h' where
  keep := fun b u q _ _ _ => k b u q
  slot := fun b u q _ _ _ => ⟨u.slots, k b u q⟩
  free := fun b u q n _ => by rw [upd_ne (Nat.ne_of_lt (Nat.lt_of_lt_of_le (Heap.lt_size q) hp))]; exact n
  there := fun b u q _ => ⟨u, k b u q⟩
  tups := fun b xs q => by rw [upd_ne (ne_of_none q hn)]; exact q
  frzs := fun b u xs q => by rw [upd_ne (ne_of_none q hn)]; exact q
  tbls := fun b ps q => ⟨#[], by rw [upd_ne (ne_of_none q hn), q]; simp⟩
theorem Un.write (mu : Mut (H x)) (he : e = x ∨ H e = some (.own x)) (k : ∀ b u, b ≠ e → h.get? b = some u → h'.get? b = some u) (heo : ∃ u, h'.get? e = some u) : Un fs ex H (upd H x o) h h' := by
  have hx : ∀ b, H b = none → b ≠ x := fun b n z => by subst z; rw [n] at mu; exact mu
  have hb : ∀ b, H b = none → b ≠ e := fun b n z => by
    subst z
    rcases he with r | r
    · exact hx b n r
    · rw [n] at r; cases r
  have hm : ∀ b u, H b = some u → ¬ Mut (some u) → b ≠ x := fun b u q nm z => by subst z; rw [q] at mu; exact nm mu
  refine ⟨fun b u q n _ _ => k b u (hb b n) q, fun b u q n _ _ => ⟨u.slots, k b u (hb b n) q⟩, fun b u q n _ => by rw [upd_ne (hx b n)]; exact n, fun b u q _ => ?_,
    fun b xs q => by rw [upd_ne (hm b _ q fun z => z)]; exact q, fun b u xs q => by rw [upd_ne (hm b _ q fun z => z)]; exact q, fun b ps q => ⟨#[], by rw [upd_ne (hm b _ q fun z => z), q]; simp⟩⟩
  by_cases hbe : b = e
  · subst hbe; exact heo
  · exact ⟨u, k b u hbe q⟩
theorem Un.mono (u : Un fs ex H H1 h h1) (hs : ∀ b ∈ fs, b ∈ fs') (hx : ∀ b ∈ ex, b ∈ ex') : Un fs' ex' H H1 h h1 :=
  ⟨fun b ob q n hb he => u.keep b ob q n (fun z => hb (hs b z)) fun z => he (hx b z), fun _ _ q n _ he => u.any q n fun z => he (hx _ z), fun b ob q n he => u.free b ob q n fun z => he (hx b z), fun b ob q he => u.there b ob q fun z => he (hx b z), u.tups, u.frzs, u.tbls⟩
end
noncomputable def trk (h : Heap) (H : Hp) : List Addr := (List.range h.objs.size).filter fun a => (H a).isSome
noncomputable def hidT (h : Heap) (H : Hp) : Heap := PySem.W.hideAll h (trk h H)
theorem hidT_size (h : Heap) (H : Hp) : (hidT h H).objs.size = h.objs.size := PySem.W.hideAll_size _ _
theorem hidT_get {h : Heap} {H : Hp} {b : Addr} {o : Obj} (e : h.get? b = some o) (n : H b = none) : (hidT h H).get? b = some o :=
  PySem.W.hideAll_get _ e fun hm => by
    have q : (H b).isSome = true := (List.mem_filter.mp hm).2
    rw [n] at q; simp at q
theorem of_hidT {h : Heap} {H : Hp} {b : Addr} {o : Obj} (e : (hidT h H).get? b = some o) : h.get? b = some o ∧ H b = none := by
  have e' : h.get? b = some o := PySem.W.of_hideAll (trk h H) e
  refine ⟨e', ?_⟩
  cases q : H b with
  | none => rfl
  | some x =>
    have hm : b ∈ trk h H := List.mem_filter.mpr ⟨List.mem_range.mpr (Heap.lt_size e'), by simp [q]⟩
    have z : (hidT h H).get? b = none := PySem.W.hideAll_none (trk h H) hm
    rw [z] at e; cases e
noncomputable def allNews (g h : Heap) (L : Addr) : List (Addr × Obj) := (List.range h.objs.size).filterMap fun a => if a = L ∨ (g.get? a).isSome = true then none else (h.get? a).map fun o => (a, o)
noncomputable def rest (g h : Heap) (L d : Addr) : List (Addr × Obj) := (allNews g h L).filter fun p => decide (p.1 ≠ d)
end L2
namespace L2
open PySem PySem.Spec PyProof.Rows
structure Mod (K : PySem.W.Frag) (mg : Str → Option Value) (base : Heap) : Prop where
  kin : K.In base
  glob : base.Ns mainGlobals mg
  blt : ∃ mb, base.Ns builtinsNs mb ∧ ∀ x : Str, x ≠ "__name__" → mb x = bootBuiltins x
  nolimit : base.NoLimit
structure Cx where
  prog : Program
  w : World
  K : PySem.W.Frag
  mg : Str → Option Value
  base : Heap
  A : Around
  N : List Str
  s₀ : Shared
  H₀ : Hp
  env : Env
  outer : List Env
  stack : List Env
  ex : List Addr
  fn : Str → Bool
  calm : Bool
  pn : List (Addr × Obj)
  xe : Value → Shared → Prop
noncomputable def frs (l : List Env) : List Addr := l.filterMap (·.frame)
noncomputable abbrev Cx.fs (X : Cx) : List Addr := frs X.outer
noncomputable def Vis (sc : Scope) (x : Str) : Prop := sc.names.lookup x = some .local ∨ sc.names.lookup x = some .cell ∨ sc.names.lookup x = some .free
noncomputable def Loc (sc : Scope) (x : Str) : Prop := sc.names.lookup x = some .local ∨ sc.names.lookup x = some .cell
noncomputable def Look (env : Env) (h : Heap) (m : Str → Option Value) (x : Str) (u : Value) : Prop :=
  (env.kindOf x = some .local ∧ m x = some u) ∨ ((env.kindOf x = some .cell ∨ env.kindOf x = some .free) ∧ ∃ c, env.cells.lookup x = some c ∧ h.IsCell c (some u))
structure Cx.Ok (X : Cx) : Prop where
  mod : Mod X.K X.mg X.base
  kind : X.env.scope.kind = .function
  glob : X.env.globals = mainGlobals
  blt : X.env.builtins = builtinsNs
  above : X.s₀.heap.objs.size ≤ X.env.locals
  inj : ∀ x y c, X.env.cells.lookup x = some c → X.env.cells.lookup y = some c → x = y
  has : ∀ x, (X.env.kindOf x = some .cell ∨ X.env.kindOf x = some .free) → ∃ c, X.env.cells.lookup x = some c
  cab : ∀ x c, X.fn x = true → X.env.cells.lookup x = some c → X.s₀.heap.objs.size ≤ c
  hd : X.calm = true → X.A.handled = none
  frames : X.A.frames = some X.stack
  stk : X.stack = X.outer ∨ (X.stack = X.env :: X.outer ∧ X.env.frame = some X.env.locals)
  exf : ∀ b ∈ X.ex, b ≠ X.env.locals ∧ ∀ x c, X.env.cells.lookup x = some c → c ≠ b
  bs : ∀ b o, X.base.get? b = some o → X.s₀.heap.get? b = some o ∧ X.H₀ b = none
  bsz : X.base.objs.size ≤ X.s₀.heap.objs.size
  noex : ∀ b o, X.base.get? b = some o → b ∉ X.ex
  exfs : ∀ b ∈ X.ex, b ∉ X.fs
  funs : X.s₀.heap.FunFrames X.base X.outer
  frf : ∀ b ∈ X.fs, X.H₀ b = none
structure Inv (X : Cx) (pins : List (Addr × Obj)) (σ : List (Option V)) (H : Hp) (s : Shared) : Prop where
  ok : X.Ok
  os : s.os = X.s₀.os
  bare : AllBare s.gens
  base : Un X.fs X.ex X.H₀ H X.s₀.heap s.heap
  loc : ∃ m, s.heap.Ns X.env.locals m ∧ ∀ (i : Nat) (x : Str) (v : V), X.N[i]? = some x → σ[i]? = some (some v) → Vis X.env.scope x → ∃ u, RelV v u ∧ Look X.env s.heap m x u
  cell : ∀ x c, X.env.cells.lookup x = some c → ∃ v, s.heap.IsCell c v
  free : H X.env.locals = none
  freeC : ∀ x c, X.env.cells.lookup x = some c → H c = none
  pin : ∀ p ∈ X.pn ++ pins, s.heap.get? p.1 = some p.2 ∧ H p.1 = none ∧ p.1 ≠ X.env.locals ∧ p.1 ∉ X.fs ∧ ∀ v, p.2.data ≠ .cell v
  hok : HOk X.prog X.w H s.heap
  len : σ.length = X.N.length
section
variable {X : Cx} {pins : List (Addr × Obj)} {σ : List (Option V)} {H H' : Hp} {s : Shared} {h' : Heap}
theorem Cx.Ok.nofr (ok : X.Ok) {b : Addr} {o : Obj} (e : X.base.get? b = some o) : b ∉ X.fs := fun hb => by
  have := (ok.funs.mem hb).1
  rw [e] at this; cases this
theorem Inv.bs (I : Inv X pins σ H s) : ∀ b o, X.base.get? b = some o → s.heap.get? b = some o ∧ H b = none := fun b o e =>
  ⟨I.base.keep b o (I.ok.bs b o e).1 (I.ok.bs b o e).2 (I.ok.nofr e) (I.ok.noex b o e), I.base.free b o (I.ok.bs b o e).1 (I.ok.bs b o e).2 (I.ok.noex b o e)⟩
theorem Inv.bk (I : Inv X pins σ H s) : ∀ b o, X.base.get? b = some o → s.heap.get? b = some o := fun b o e => (I.bs b o e).1
theorem Inv.mod (I : Inv X pins σ H s) : Mod X.K X.mg X.base := I.ok.mod
theorem Inv.kIn (I : Inv X pins σ H s) : X.K.In s.heap := I.ok.mod.kin.keeps I.bk
theorem Inv.nolimit (I : Inv X pins σ H s) : s.heap.NoLimit := I.ok.mod.nolimit.keeps I.bk
theorem Inv.fr (I : Inv X pins σ H s) : ∃ m, Fr X.base X.env.locals s.heap m :=
  let ⟨m, hn, _⟩ := I.loc
  ⟨m, hn, I.bk, Nat.le_trans I.ok.bsz I.ok.above⟩
theorem Inv.lt (I : Inv X pins σ H s) : X.env.locals < s.heap.objs.size := let ⟨_, hn, _⟩ := I.loc; hn.lt
theorem Inv.sz (I : Inv X pins σ H s) : X.s₀.heap.objs.size ≤ s.heap.objs.size := Nat.le_trans I.ok.above (Nat.le_of_lt I.lt)
theorem Inv.nofs (I : Inv X pins σ H s) {a : Addr} (h : s.heap.objs.size ≤ a) : a ∉ X.fs := fun hb => by
  obtain ⟨_, o, ho, _⟩ := I.ok.funs.mem hb
  exact absurd (Nat.lt_of_lt_of_le (Heap.lt_size ho) (Nat.le_trans I.sz h)) (Nat.lt_irrefl _)
theorem Inv.cne (I : Inv X pins σ H s) : ∀ x c, X.env.cells.lookup x = some c → c ≠ X.env.locals := fun x c e z => by
  obtain ⟨v, o, ho, hd⟩ := I.cell x c e
  obtain ⟨m, ⟨o', es, ep, ho', hd', _⟩, _⟩ := I.loc
  rw [z, ho'] at ho; cases ho; rw [hd'] at hd; cases hd
theorem Inv.funs (I : Inv X pins σ H s) : s.heap.FunFrames X.base X.outer := by
  have all : ∀ (l : List Env), (∀ b ∈ frs l, b ∈ X.fs) → X.s₀.heap.FunFrames X.base l → s.heap.FunFrames X.base l := by
    intro l
    induction l with
    | nil => intro _ _; trivial
    | cons env r ih =>
      intro hs hl
      obtain ⟨hk, ⟨L, o, hf, hn, ho, hd⟩, hr⟩ := hl
      have hL : L ∈ X.fs := hs L (by unfold frs; rw [List.filterMap_cons, hf]; exact List.mem_cons_self)
      obtain ⟨sl, e⟩ := I.base.slot L o ho (I.ok.frf L hL) hL fun z => I.ok.exfs L z hL
      exact ⟨hk, ⟨L, _, hf, hn, e, hd⟩, ih (fun b hb => hs b (by unfold frs; rw [List.filterMap_cons, hf]; exact List.mem_cons_of_mem _ hb)) hr⟩
  exact all X.outer (fun _ hb => hb) I.ok.funs
theorem Inv.stack (I : Inv X pins σ H s) : s.heap.FunFrames X.base X.stack := by
  rcases I.ok.stk with e | ⟨e, hf⟩
  · rw [e]; exact I.funs
  · rw [e]
    obtain ⟨m, hn, _⟩ := I.loc
    refine .cons (by rw [I.ok.kind]; decide) hf hn ?_ I.funs
    exact Heap.get?_none_of_le (Nat.le_trans I.ok.bsz I.ok.above)
theorem Inv.stkSub (I : Inv X pins σ H s) : ∀ b ∈ frs X.stack, b ∈ X.env.locals :: X.fs := fun b hb => by
  rcases I.ok.stk with e | ⟨e, hf⟩
  · rw [e] at hb; exact List.mem_cons_of_mem _ hb
  · rw [e] at hb
    unfold frs at hb
    rw [List.filterMap_cons, hf] at hb
    exact hb
theorem Inv.stkFree (I : Inv X pins σ H s) : ∀ b ∈ frs X.stack, H b = none := fun b hb => by
  rcases List.mem_cons.mp (I.stkSub b hb) with e | hb
  · rw [e]; exact I.free
  · obtain ⟨_, o, ho, _⟩ := I.ok.funs.mem hb
    exact I.base.free b o ho (I.ok.frf b hb) fun z => I.ok.exfs b z hb
theorem Inv.step {g' : Array GenState} {t' : Nat} {d' : Drawn} {ch : List Addr} (I : Inv X pins σ H s)
    (hch : ∀ b ∈ ch, (b ∈ X.ex ∨ X.s₀.heap.objs.size ≤ b) ∧ b ≠ X.env.locals ∧ (∀ x c, X.env.cells.lookup x = some c → c ≠ b) ∧ ∀ p ∈ X.pn ++ pins, p.1 ≠ b)
    (keep : ∀ b o, b ≠ X.env.locals → b ∉ X.fs → b ∉ ch → s.heap.get? b = some o → H b = none → h'.get? b = some o)
    (slot : ∀ b o, b ≠ X.env.locals → b ∈ X.fs → b ∉ ch → s.heap.get? b = some o → H b = none → ∃ sl, h'.get? b = some { o with slots := sl }) (free : ∀ b o, b ∉ ch → s.heap.get? b = some o → H b = none → H' b = none)
    (there : ∀ b o, b ∉ ch → s.heap.get? b = some o → ∃ o', h'.get? b = some o')
    (tups : ∀ b xs, H b = some (.tup xs) → H' b = some (.tup xs)) (frzs : ∀ b o u, H b = some (.frz o u) → H' b = some (.frz o u)) (tbls : ∀ b ps, H b = some (.tbl ps) → ∃ more, H' b = some (.tbl (ps ++ more)))
    (ns : ∀ m, s.heap.Ns X.env.locals m → h'.Ns X.env.locals m) (hok : HOk X.prog X.w H' h') (hg : AllBare g') :
    Inv X pins σ H' { s with heap := h', gens := g', drawn := d', toks := t' } := by
  have neL : ∀ b o, X.s₀.heap.get? b = some o → b ≠ X.env.locals := fun b o e => Nat.ne_of_lt (Nat.lt_of_lt_of_le (Heap.lt_size e) I.ok.above)
  have neC : ∀ b o, X.s₀.heap.get? b = some o → b ∉ X.ex → b ∉ ch := fun b o e hx hb => by
    rcases (hch b hb).1 with z | z
    · exact hx z
    · exact absurd (Nat.lt_of_lt_of_le (Heap.lt_size e) z) (Nat.lt_irrefl _)
  have cellK : ∀ x c, X.env.cells.lookup x = some c → ∀ v, s.heap.IsCell c v → h'.IsCell c v := fun x c e v ⟨o, ho, hd⟩ => by
    have nch : c ∉ ch := fun z => (hch c z).2.2.1 x c e rfl
    by_cases hc : c ∈ X.fs
    · obtain ⟨sl, q⟩ := slot c o (I.cne x c e) hc nch ho (I.freeC x c e)
      exact ⟨_, q, hd⟩
    · exact ⟨o, keep c o (I.cne x c e) hc nch ho (I.freeC x c e), hd⟩
  refine ⟨I.ok, I.os, hg, ⟨fun b o e n hb hx => ?_, fun b o e n hb hx => ?_, fun b o e n hx => ?_, fun b o e hx => ?_, fun b xs e => tups b xs (I.base.tups b xs e), fun b o xs e => frzs b o xs (I.base.frzs b o xs e), fun b ps e => ?_⟩, ?_, fun x c e => ?_, ?_, fun x c e => ?_, fun p hp => ?_, hok, I.len⟩
  · exact keep b o (neL b o e) hb (neC b o e hx) (I.base.keep b o e n hb hx) (I.base.free b o e n hx)
  · obtain ⟨sl, e1⟩ := I.base.slot b o e n hb hx
    obtain ⟨sl', e2⟩ := slot b _ (neL b o e) hb (neC b o e hx) e1 (I.base.free b o e n hx)
    exact ⟨sl', e2⟩
  · obtain ⟨o', e1⟩ := I.base.there b o e hx
    exact free b o' (neC b o e hx) e1 (I.base.free b o e n hx)
  · obtain ⟨o', e1⟩ := I.base.there b o e hx
    exact there b o' (neC b o e hx) e1
  · obtain ⟨m1, e1⟩ := I.base.tbls b ps e
    obtain ⟨m2, e2⟩ := tbls b _ e1
    exact ⟨m1 ++ m2, by rw [e2, Array.append_assoc]⟩
  · obtain ⟨m, hn, hl⟩ := I.loc
    refine ⟨m, ns m hn, fun i x v e1 e2 e3 => ?_⟩
    obtain ⟨u, r, l⟩ := hl i x v e1 e2 e3
    refine ⟨u, r, ?_⟩
    rcases l with l | ⟨k, c, e, z⟩
    · exact .inl l
    · exact .inr ⟨k, c, e, cellK x c e _ z⟩
  · obtain ⟨v, z⟩ := I.cell x c e
    exact ⟨v, cellK x c e v z⟩
  · obtain ⟨m, ⟨o, _, _, ho, _⟩, _⟩ := I.loc
    exact free _ o (fun z => (hch _ z).2.1 rfl) ho I.free
  · obtain ⟨v, o, ho, hd⟩ := I.cell x c e
    exact free c o (fun z => (hch c z).2.2.1 x c e rfl) ho (I.freeC x c e)
  · obtain ⟨e, n, ne, nf, d⟩ := I.pin p hp
    have nch : p.1 ∉ ch := fun z => (hch p.1 z).2.2.2 p hp rfl
    exact ⟨keep p.1 p.2 ne nf nch e n, free p.1 p.2 nch e n, ne, nf, d⟩
theorem Inv.un {t' : Nat} (I : Inv X pins σ H s) (u : Un X.fs [] H H' s.heap h') (hok : HOk X.prog X.w H' h') : Inv X pins σ H' { s with heap := h', toks := t' } := by
  obtain ⟨m, ⟨o, es, ep, ho, r⟩, _⟩ := id I.loc
  obtain ⟨sl, hL⟩ := u.any ho I.free (by simp)
  exact I.step (g' := s.gens) (d' := s.drawn) (ch := []) (fun _ z => nomatch z) (fun b o _ hb _ e n => u.keep b o e n hb (by simp)) (fun b o _ hb _ e n => u.slot b o e n hb (by simp)) (fun b o _ e n => u.free b o e n (by simp)) (fun b o _ e => u.there b o e (by simp)) u.tups u.frzs u.tbls (fun m' hm => by
    obtain ⟨o', es', ep', ho', r'⟩ := hm
    rw [ho] at ho'; cases ho'
    exact ⟨_, es', ep', hL, r'⟩) hok I.bare
theorem Inv.call {g' : Array GenState} {t' : Nat} {d' : Drawn} {ch : List Addr} (I : Inv X pins σ H s) (u : Un (frs X.stack) ch H H' s.heap h') (hok : HOk X.prog X.w H' h') (hg : AllBare g')
    (hch : ∀ b ∈ ch, (b ∈ X.ex ∨ X.s₀.heap.objs.size ≤ b) ∧ b ≠ X.env.locals ∧ (∀ x c, X.env.cells.lookup x = some c → c ≠ b) ∧ ∀ p ∈ X.pn ++ pins, p.1 ≠ b) :
    Inv X pins σ H' { s with heap := h', gens := g', drawn := d', toks := t' } := by
  obtain ⟨m, ⟨o, es, ep, ho, r⟩, _⟩ := id I.loc
  obtain ⟨sl, hL⟩ := u.any ho I.free fun z => (hch _ z).2.1 rfl
  exact I.step (ch := ch) hch (fun b o hL hb hc e n => u.keep b o e n (fun z => (List.mem_cons.mp (I.stkSub b z)).elim hL hb) hc) (fun b o _ _ hc e n => u.any e n hc) (fun b o hc e n => u.free b o e n hc) (fun b o hc e => u.there b o e hc) u.tups u.frzs u.tbls (fun m' hm => by
    obtain ⟨o', es', ep', ho', r'⟩ := hm
    rw [ho] at ho'; cases ho'
    exact ⟨_, es', ep', hL, r'⟩) hok hg
theorem Inv.turned {t' : Nat} {it : Addr} (I : Inv X pins σ H s) (k : ∀ b o, b ≠ it → s.heap.get? b = some o → h'.get? b = some o) (hn : H it = none) (hL : it ≠ X.env.locals)
    (h1 : it ∈ X.ex ∨ X.s₀.heap.objs.size ≤ it) (h2 : ∀ x c, X.env.cells.lookup x = some c → c ≠ it) (h3 : ∀ p ∈ X.pn ++ pins, p.1 ≠ it) : Inv X pins σ H { s with heap := h', toks := t' } := by
  have nit : ∀ b u, H b = some u → b ≠ it := fun b u e z => by rw [z, hn] at e; cases e
  refine I.step (g' := s.gens) (d' := s.drawn) (ch := [it]) (fun b hb => ?_) (fun b o _ _ hc e _ => k b o (fun z => hc (by simp [z])) e) (fun b o _ _ hc e _ => ⟨o.slots, k b o (fun z => hc (by simp [z])) e⟩) (fun _ _ _ _ n => n)
    (fun b o hc e => ⟨o, k b o (fun z => hc (by simp [z])) e⟩) (fun _ _ e => e) (fun _ _ _ e => e) (fun b ps e => ⟨#[], by rw [e]; simp⟩) (fun m hm => ?_) (fun b u e => ?_) I.bare
  · have e : b = it := by simpa using hb
    subst e
    exact ⟨h1, hL, h2, h3⟩
  · obtain ⟨o, es, ep, ho, r⟩ := hm
    exact ⟨o, es, ep, k _ o (Ne.symm hL) ho, r⟩
  · refine (I.hok b u e).stay (fun c v hc q => k c v ?_ q) (fun _ q => q) fun _ _ q => q
    rcases hc with z | z
    · rw [z]; exact nit b u e
    · exact nit c _ z
theorem Inv.tok (I : Inv X pins σ H s) (t : Nat) : Inv X pins σ H { s with toks := t } := I.un (h' := s.heap) (t' := t) Un.refl I.hok
theorem Inv.kept {t' : Nat} (I : Inv X pins σ H s) (k : ∀ b u, s.heap.get? b = some u → h'.get? b = some u) : Inv X pins σ H { s with heap := h', toks := t' } := I.un (Un.kept k) (I.hok.kept k)
theorem Inv.laid {a : Addr} {o : HO} {t' : Nat} (I : Inv X pins σ H s) (k : ∀ b u, s.heap.get? b = some u → h'.get? b = some u) (hp : s.heap.objs.size ≤ a) (new : ObjOk X.prog X.w (upd H a o) h' a o) :
    Inv X pins σ (upd H a o) { s with heap := h', toks := t' } := I.un (Un.laid k hp (I.hok.fresh hp)) (I.hok.laid k hp new)
theorem Inv.write {x e : Addr} {o : HO} {t' : Nat} (I : Inv X pins σ H s) (mu : Mut (H x)) (he : e = x ∨ H e = some (.own x)) (k : ∀ b u, b ≠ e → s.heap.get? b = some u → h'.get? b = some u) (heo : ∃ u, h'.get? e = some u)
    (new : ObjOk X.prog X.w (upd H x o) h' x o) : Inv X pins σ (upd H x o) { s with heap := h', toks := t' } := I.un (Un.write mu he k heo) (I.hok.write mu he k heo new)
theorem Inv.pins_of {pins' : List (Addr × Obj)} (I : Inv X pins σ H s) (h : ∀ p ∈ pins', s.heap.get? p.1 = some p.2 ∧ H p.1 = none ∧ p.1 ≠ X.env.locals ∧ p.1 ∉ X.fs ∧ ∀ v, p.2.data ≠ .cell v) : Inv X pins' σ H s :=
  ⟨I.ok, I.os, I.bare, I.base, I.loc, I.cell, I.free, I.freeC, fun p hp => (List.mem_append.mp hp).elim (fun z => I.pin p (List.mem_append_left _ z)) (h p), I.hok, I.len⟩
theorem nodup_ix {N : List Str} (hN : N.Nodup) {i j : Nat} {x : Str} (a : N[i]? = some x) (b : N[j]? = some x) : i = j := by
  obtain ⟨h1, e1⟩ := List.getElem?_eq_some_iff.mp a
  obtain ⟨h2, e2⟩ := List.getElem?_eq_some_iff.mp b
  exact (List.getElem_inj hN).mp (e1.trans e2.symm)
theorem store_ok2 {M : Model} {A : Around} {E : Value → Shared → Prop} {i : Nat} {x : Str} {v : V} {u : Value} {Q : Unit → Shared → Prop} (I : Inv X pins σ H s) (hN : X.N.Nodup) (hi : X.N[i]? = some x) (hx : Loc X.env.scope x) (r : RelV v u)
    (h : ∀ s', Inv X pins (σ.set i (some v)) H s' → (∃ a, Heap.SameBut a s.heap s'.heap ∧ (a = X.env.locals ∨ X.env.cells.lookup x = some a)) → Q () s') (hf : X.fn x = true ∨ X.env.scope.names.lookup x = some .local := by first | exact .inl rfl | exact .inr rfl | assumption) : wpAny M A (storeName X.env x u) Q E s := by
  obtain ⟨m, hn, hl⟩ := id I.loc
  have hcls : (X.env.scope.kind == .class || (X.env.scope.kind == .module && X.env.locals != X.env.globals)) = false := by rw [I.ok.kind]; rfl
  have hiσ : i < σ.length := by rw [I.len]; exact (List.getElem?_eq_some_iff.mp hi).1
  have cne := I.cne
  have tracked : ∀ {a : Addr} {h' : Heap}, (∃ o, s.heap.get? a = some o ∧ H a = none) → Heap.SameBut a s.heap h' → HOk X.prog X.w H h' := fun {a h'} ha hs b ob e => by
    obtain ⟨_, _, hfree⟩ := ha
    refine (I.hok b ob e).stay (fun c w' hc q => (hs.2 c ?_).trans q) (fun _ q => q) fun _ _ q => q
    rintro rfl
    rcases hc with rfl | hc
    · rw [hfree] at e; cases e
    · rw [hfree] at hc; cases hc
  rcases hx with hk | hk
  · refine wpAny_storeName_local hk hn (fun h' hn' hs => ?_) hcls
    obtain ⟨oL, _, _, hoL, _⟩ := id hn
    refine h _ ⟨I.ok, I.os, I.bare, ⟨fun b o e n hb hx => ?_, fun b o e n hb hx => ?_, I.base.free, fun b o e hx => ?_, I.base.tups, I.base.frzs, I.base.tbls⟩, ⟨_, hn', fun j y v' e1 e2 e3 => ?_⟩, fun y c e => ?_, I.free, I.freeC, fun p hp => ?_, tracked ⟨oL, hoL, I.free⟩ hs, by simpa using I.len⟩ ⟨_, hs, .inl rfl⟩
    · exact (hs.2 b (Nat.ne_of_lt (Nat.lt_of_lt_of_le (Heap.lt_size e) I.ok.above))).trans (I.base.keep b o e n hb hx)
    · obtain ⟨sl, e1⟩ := I.base.slot b o e n hb hx
      exact ⟨sl, (hs.2 b (Nat.ne_of_lt (Nat.lt_of_lt_of_le (Heap.lt_size e) I.ok.above))).trans e1⟩
    · obtain ⟨o', e1⟩ := I.base.there b o e hx
      exact ⟨o', (hs.2 b (Nat.ne_of_lt (Nat.lt_of_lt_of_le (Heap.lt_size e) I.ok.above))).trans e1⟩
    · by_cases hj : j = i
      · subst hj
        rw [hi] at e1; cases e1
        rw [List.getElem?_set_self hiσ] at e2
        cases e2
        exact ⟨u, r, .inl ⟨hk, by simp⟩⟩
      · rw [List.getElem?_set_ne (Ne.symm hj)] at e2
        obtain ⟨u', r', q⟩ := hl j y v' e1 e2 e3
        refine ⟨u', r', ?_⟩
        rcases q with ⟨k, e⟩ | ⟨k, c, e, z⟩
        · refine .inl ⟨k, ?_⟩
          have : y ≠ x := fun e => hj (nodup_ix hN e1 (e ▸ hi))
          simp [this, e]
        · exact .inr ⟨k, c, e, z.sameBut hs (cne y c e)⟩
    · obtain ⟨w', z⟩ := I.cell y c e
      exact ⟨w', z.sameBut hs (cne y c e)⟩
    · obtain ⟨e, n, ne, nf, d⟩ := I.pin p hp
      exact ⟨(hs.2 p.1 ne).trans e, n, ne, nf, d⟩
  · have hfn : X.fn x = true := by
      rcases hf with z | z
      · exact z
      · rw [z] at hk; cases hk
    obtain ⟨c, hc⟩ := I.ok.has x (.inl hk)
    obtain ⟨w', z⟩ := I.cell x c hc
    refine wpAny_storeName_cell I.ok.kind hk hc z (fun h' hc' hs => ?_)
    obtain ⟨oc, hoc, hocd⟩ := id z
    refine h { s with heap := h' } ⟨I.ok, I.os, I.bare, ⟨fun b o e n hb hx => ?_, fun b o e n hb hx => ?_, I.base.free, fun b o e hx => ?_, I.base.tups, I.base.frzs, I.base.tbls⟩, ⟨m, hn.sameBut hs (Ne.symm (cne x c hc)), fun j y v' e1 e2 e3 => ?_⟩, fun y c' e => ?_, I.free, I.freeC, fun p hp => ?_, tracked ⟨oc, hoc, I.freeC x c hc⟩ hs, by simpa using I.len⟩ ⟨c, hs, .inr hc⟩
    · exact (hs.2 b (Nat.ne_of_lt (Nat.lt_of_lt_of_le (Heap.lt_size e) (I.ok.cab x c hfn hc)))).trans (I.base.keep b o e n hb hx)
    · obtain ⟨sl, e1⟩ := I.base.slot b o e n hb hx
      exact ⟨sl, (hs.2 b (Nat.ne_of_lt (Nat.lt_of_lt_of_le (Heap.lt_size e) (I.ok.cab x c hfn hc)))).trans e1⟩
    · obtain ⟨o', e1⟩ := I.base.there b o e hx
      exact ⟨o', (hs.2 b (Nat.ne_of_lt (Nat.lt_of_lt_of_le (Heap.lt_size e) (I.ok.cab x c hfn hc)))).trans e1⟩
    · by_cases hj : j = i
      · subst hj
        rw [hi] at e1; cases e1
        rw [List.getElem?_set_self hiσ] at e2
        cases e2
        exact ⟨u, r, .inr ⟨.inl hk, c, hc, hc'⟩⟩
      · rw [List.getElem?_set_ne (Ne.symm hj)] at e2
        obtain ⟨u', r', q⟩ := hl j y v' e1 e2 e3
        refine ⟨u', r', ?_⟩
        rcases q with q | ⟨k, c', e, z'⟩
        · exact .inl q
        · refine .inr ⟨k, c', e, z'.sameBut hs ?_⟩
          rintro rfl
          exact hj (nodup_ix hN e1 (I.ok.inj _ _ _ e hc ▸ hi))
    · by_cases hcc : c' = c
      · subst hcc; exact ⟨_, hc'⟩
      · obtain ⟨w2, z2⟩ := I.cell y c' e
        exact ⟨w2, z2.sameBut hs hcc⟩
    · obtain ⟨e, n, ne, nf, d⟩ := I.pin p hp
      refine ⟨(hs.2 p.1 ?_).trans e, n, ne, nf, d⟩
      intro q
      rw [q, hoc] at e
      have q' : oc = p.2 := Option.some.inj e
      exact d w' (by rw [← q']; exact hocd)
theorem store_ok {M : Model} {A : Around} {E : Value → Shared → Prop} {i : Nat} {x : Str} {v : V} {u : Value} {Q : Unit → Shared → Prop} (I : Inv X pins σ H s) (hN : X.N.Nodup) (hi : X.N[i]? = some x) (hx : Loc X.env.scope x) (r : RelV v u)
    (h : ∀ s', Inv X pins (σ.set i (some v)) H s' → Q () s') (hf : X.fn x = true ∨ X.env.scope.names.lookup x = some .local := by first | exact .inl rfl | exact .inr rfl | assumption) : wpAny M A (storeName X.env x u) Q E s :=
  store_ok2 I hN hi hx r (fun s' I' _ => h s' I') hf
theorem Inv.call' {s' : Shared} {ch : List Addr} (I : Inv X pins σ H s) (ho : s'.os = s.os) (u : Un (frs X.stack) ch H H' s.heap s'.heap) (hok : HOk X.prog X.w H' s'.heap) (hg : AllBare s'.gens)
    (hch : ∀ b ∈ ch, (b ∈ X.ex ∨ X.s₀.heap.objs.size ≤ b) ∧ b ≠ X.env.locals ∧ (∀ x c, X.env.cells.lookup x = some c → c ≠ b) ∧ ∀ p ∈ X.pn ++ pins, p.1 ≠ b) : Inv X pins σ H' s' := by
  obtain ⟨h', g', d', t', o'⟩ := s'
  have e : o' = s.os := ho
  subst e
  exact I.call (g' := g') (t' := t') (d' := d') u hok hg hch
end
noncomputable abbrev XK := Value → Option Addr → Hp → Prop
noncomputable abbrev St := List (Option V)
noncomputable abbrev VK := V → Hp → Prop
noncomputable abbrev TE := St → Hp → VK → Prop
noncomputable abbrev TT := St → Hp → (Bool → Hp → Prop) → Prop
noncomputable abbrev TA := St → Hp → (List V → Hp → Prop) → Prop
structure Ends where
  nx : St → Hp → Prop
  rt : VK
  bk : St → Hp → Prop := fun _ _ => False
  ct : St → Hp → Prop := fun _ _ => False
noncomputable abbrev TS := Ends → St → Hp → Prop
noncomputable def EP (X : Cx) (pins : List (Addr × Obj)) (σ : St) (Q : VK) (u : Value) (s' : Shared) : Prop := ∃ v H', Inv X pins σ H' s' ∧ RelV v u ∧ Q v H'
noncomputable def TP (X : Cx) (pins : List (Addr × Obj)) (σ : St) (Q : Bool → Hp → Prop) (b : Bool) (s' : Shared) : Prop := ∃ H', Inv X pins σ H' s' ∧ Q b H'
noncomputable def AP (X : Cx) (pins : List (Addr × Obj)) (σ : St) (Q : List V → Hp → Prop) (us : List Value) (s' : Shared) : Prop := ∃ vs H', Inv X pins σ H' s' ∧ Vals vs us ∧ Q vs H'
noncomputable def SP (X : Cx) (pins : List (Addr × Obj)) (D : Ends) (f : Flow) (s' : Shared) : Prop :=
  match f with
  | .next => ∃ σ' H', Inv X pins σ' H' s' ∧ D.nx σ' H'
  | .brk => ∃ σ' H', Inv X pins σ' H' s' ∧ D.bk σ' H'
  | .cont => ∃ σ' H', Inv X pins σ' H' s' ∧ D.ct σ' H'
  | .ret u => ∃ v σ' H', Inv X pins σ' H' s' ∧ RelV v u ∧ D.rt v H'
noncomputable def PE (X : Cx) (e : Expr) (t : TE) : Prop :=
  ∀ (pins : List (Addr × Obj)) (s : Shared) (σ : St) (H : Hp) (Q : VK), Inv X pins σ H s → t σ H Q → wpAny (model X.prog X.w) X.A (eval e X.env) (EP X pins σ Q) X.xe s
noncomputable def PT (X : Cx) (e : Expr) (t : TT) : Prop :=
  ∀ (pins : List (Addr × Obj)) (s : Shared) (σ : St) (H : Hp) (Q : Bool → Hp → Prop), Inv X pins σ H s → t σ H Q → wpAny (model X.prog X.w) X.A (isTrue e X.env (eval e X.env)) (TP X pins σ Q) X.xe s
noncomputable def PW (X : Cx) (e : Expr) (t : TT) : Prop :=
  ∀ (whole : Sem Value) (pins : List (Addr × Obj)) (s : Shared) (σ : St) (H : Hp) (Q : Bool → Hp → Prop), Inv X pins σ H s → t σ H Q → wpAny (model X.prog X.w) X.A (isTrue e X.env whole) (TP X pins σ Q) X.xe s
theorem PW.pt {X : Cx} {e : Expr} {t : TT} (h : PW X e t) : PT X e t := h _
noncomputable def PA (X : Cx) (es : List Expr) (t : TA) : Prop :=
  ∀ (pos : Pos) (pins : List (Addr × Obj)) (s : Shared) (σ : St) (H : Hp) (Q : List V → Hp → Prop), Inv X pins σ H s → t σ H Q → wpAny (model X.prog X.w) X.A (spliced (backTo pos (starEach es X.env))) (AP X pins σ Q) X.xe s
noncomputable def PS (X : Cx) (st : Stmt) (t : TS) : Prop :=
  ∀ (pins : List (Addr × Obj)) (s : Shared) (σ : St) (H : Hp) (D : Ends), Inv X pins σ H s → t D σ H → wpAny (model X.prog X.w) X.A (exec st X.env) (SP X pins D) X.xe s
noncomputable def PSs (X : Cx) (st : List Stmt) (t : TS) : Prop :=
  ∀ (pins : List (Addr × Obj)) (s : Shared) (σ : St) (H : Hp) (D : Ends), Inv X pins σ H s → t D σ H → wpAny (model X.prog X.w) X.A (execs st X.env) (SP X pins D) X.xe s
theorem thn {α : Type} {t : Sem α} {Q Q' : α → Shared → Prop} {M : Model} {A : Around} {E : Value → Shared → Prop} {s : Shared} (h : wpAny M A t Q E s) (hQ : ∀ a s, Q a s → Q' a s) : wpAny M A t Q' E s := wpAny_mono h hQ fun _ _ x => x
end L2
namespace L2
open PySem PySem.Spec PyProof.Rows
section
variable {X : Cx}
noncomputable def tVar (i : Nat) : TE := fun σ H Q => ∃ v, σ[i]? = some (some v) ∧ Q v H
noncomputable def tC (v : V) : TE := fun _ H Q => Q v H
theorem pe_var {i : Nat} {x : Str} {pos : Pos} (hN : X.N[i]? = some x) (hv : Vis X.env.scope x) (hd : (x == ("__debug__" : Str)) = false := by decide) (hcd : (x == ("__classdict__" : Str)) = false := by decide) : PE X (.Name x pos) (tVar i) := by
  intro pins s σ H Q I h
  obtain ⟨v, e, h⟩ := h
  obtain ⟨m, hn, hl⟩ := I.loc
  obtain ⟨u, r, l⟩ := hl i x v hN e hv
  have fin : EP X pins σ Q u s := ⟨v, H, I, r, h⟩
  rcases l with ⟨hk, hm⟩ | ⟨hk, c, hc, hcell⟩
  · exact wpAny_Name (wpAny_loadName_local I.ok.kind hk hn hm fin) hd
  · rcases hk with hk | hk
    · exact wpAny_Name (wpAny_loadName_cell I.ok.kind hk hc hcell fin) hd
    · exact wpAny_Name (wpAny_loadName_free I.ok.kind hk hc hcell fin hcd) hd
theorem pe_int {i j pos} : PE X (.Constant (.int i) j pos) (tC (.int i)) := fun _ _ _ H _ I h => wpAny_Constant_int ⟨.int i, H, I.tok _, ⟨_, rfl⟩, h⟩
theorem pe_bl {b j pos} : PE X (.Constant (.bool b) j pos) (tC (.bl b)) := fun _ _ _ H _ I h => Constant_bool ⟨.bl b, H, I, rfl, h⟩
theorem pe_non {j pos} : PE X (.Constant .none j pos) (tC .non) := fun _ _ _ H _ I h => Constant_none ⟨.non, H, I, rfl, h⟩
theorem pe_str {x j pos} : PE X (.Constant (.str x) j pos) (tC (.str x)) := fun _ _ _ H _ I h => Calls.Constant_str ⟨.str x, H, I.tok _, ⟨_, rfl⟩, h⟩
noncomputable def Gl (X : Cx) (x : Str) : Prop := X.env.kindOf x = some .globalImplicit
theorem ld_glob {E : Value → Shared → Prop} {pins : List (Addr × Obj)} {s : Shared} {σ : St} {H : Hp} {x : Str} {u : Value} {pos : Pos} {Q : Value → Shared → Prop} (I : Inv X pins σ H s) (hg : Gl X x) (hm : X.mg x = some u) (h : Q u s)
    (hd : (x == ("__debug__" : Str)) = false := by decide) : wpAny (model X.prog X.w) X.A (eval (.Name x pos) X.env) Q E s :=
  Calls.Name_function_global I.ok.kind hg (Calls.loadGlobal_global (by rw [I.ok.glob]; exact I.mod.glob.keeps I.bk) hm h) hd
theorem ld_blt {E : Value → Shared → Prop} {pins : List (Addr × Obj)} {s : Shared} {σ : St} {H : Hp} {x : Str} {u : Value} {pos : Pos} {Q : Value → Shared → Prop} (I : Inv X pins σ H s) (hg : Gl X x) (hm : X.mg x = none) (hv : bootBuiltins x = some u) (h : Q u s)
    (hn : x ≠ "__name__" := by decide) (hd : (x == ("__debug__" : Str)) = false := by decide) : wpAny (model X.prog X.w) X.A (eval (.Name x pos) X.env) Q E s := by
  obtain ⟨mb, h1, h2⟩ := I.mod.blt
  exact Calls.Name_function_global I.ok.kind hg (Calls.loadGlobal_builtin (by rw [I.ok.glob]; exact I.mod.glob.keeps I.bk) hm (by rw [I.ok.blt]; exact h1.keeps I.bk) ((h2 x hn).trans hv) h) hd
theorem pe_bltn {x : Str} {v : V} {u : Value} {pos : Pos} (hg : Gl X x) (hm : X.mg x = none) (hv : bootBuiltins x = some u) (r : RelV v u) (hn : x ≠ "__name__" := by decide) (hd : (x == ("__debug__" : Str)) = false := by decide) : PE X (.Name x pos) (tC v) :=
  fun _ _ _ H _ I h => ld_blt I hg hm hv ⟨v, H, I, r, h⟩ hn hd
variable {a b : Expr} {ta tb : TE} {pos : Pos}
noncomputable def PC (X : Cx) (op : CmpOp) (a b : Expr) (t : TE) : Prop :=
  ∀ (pins : List (Addr × Obj)) (s : Shared) (σ : St) (H : Hp) (Q : VK), Inv X pins σ H s → t σ H Q →
    wpAny (model X.prog X.w) X.A (eval a X.env) (fun v s₁ => wpAny (model X.prog X.w) X.A (eval b X.env) (fun u s₂ => wpAny (model X.prog X.w) X.A (compareOp op v u) (EP X pins σ Q) X.xe s₂) X.xe s₁) X.xe s
theorem nobehind (b : Expr) {op : CmpOp} (h : op ≠ .In) (h2 : op ≠ .NotIn) : behindInMarks op b = false := by
  have e1 : (op == CmpOp.In) = false := by cases op <;> first | rfl | exact absurd rfl h
  have e2 : (op == CmpOp.NotIn) = false := by cases op <;> first | rfl | exact absurd rfl h2
  cases b <;> simp [behindInMarks, e1, e2]
noncomputable def tB (t : TE) : TT := fun σ H Q => t σ H fun x H1 => ∃ c, x = .bl c ∧ Q c H1
theorem pt_cmp {op : CmpOp} {t : TE} (h : PC X op a b t) (h1 : behindInMarks op b = false := by first | exact nobehind _ (by decide) (by decide) | rfl) : PT X (.Compare a [op] [b] pos) (tB t) := by
  intro pins s σ H Q I hw
  refine wpAny_isTrue_Compare1 (thn (h pins s σ H _ I hw) fun v s1 h1 => thn h1 fun u s2 h2 => thn h2 fun c s3 ⟨x, H1, I1, r1, q1⟩ => ?_) h1
  obtain ⟨d, rfl, q⟩ := q1
  cases r1
  exact wpAny_truthy_bool ⟨H1, I1, q⟩
theorem pt_val {e : Expr} {t : TE} (h : PE X e t) (he : ∀ whole, isTrue e X.env whole = (do let v ← whole; standAt e.pos; holding [v] (truthy v)) := by intro _; rfl) : PT X e (tB t) := by
  intro pins s σ H Q I hw
  refine isTrue_plain (thn (h pins s σ H _ I hw) fun v s1 ⟨x, H1, I1, r1, q1⟩ => ?_) (he _)
  obtain ⟨d, rfl, q⟩ := q1
  cases r1
  exact wpAny_truthy_bool ⟨H1, I1, q⟩
variable {tA tB' : TT} {rest : List Expr}
noncomputable def tAnd (t u : TT) : TT := fun σ H Q => t σ H fun c H1 => if c = true then u σ H1 Q else Q false H1
noncomputable def tOr (t u : TT) : TT := fun σ H Q => t σ H fun c H1 => if c = true then Q true H1 else u σ H1 Q
noncomputable def tNot (t : TT) : TT := fun σ H Q => t σ H fun c H1 => Q (!c) H1
theorem pw_and1 (ha : PT X a tA) : PW X (.BoolOp .And [a] pos) tA := by
  intro wh pins s σ H Q I h
  refine isTrue_and (thn (ha pins s σ H Q I h) fun c s1 e => ?_)
  cases c with
  | true => exact isTrue_and_nil e
  | false => exact e
theorem pw_or1 (ha : PT X a tA) : PW X (.BoolOp .Or [a] pos) tA := by
  intro wh pins s σ H Q I h
  refine isTrue_or (thn (ha pins s σ H Q I h) fun c s1 e => ?_)
  cases c with
  | false => exact isTrue_or_nil e
  | true => exact e
theorem pw_and (ha : PT X a tA) (hb : PW X (.BoolOp .And (b :: rest) pos) tB') : PW X (.BoolOp .And (a :: b :: rest) pos) (tAnd tA tB') := by
  intro wh pins s σ H Q I h
  refine isTrue_and (thn (ha pins s σ H _ I h) fun c s1 ⟨H1, I1, q1⟩ => ?_)
  cases c with
  | true => exact hb wh pins s1 σ H1 Q I1 q1
  | false => exact ⟨H1, I1, q1⟩
theorem pw_or (ha : PT X a tA) (hb : PW X (.BoolOp .Or (b :: rest) pos) tB') : PW X (.BoolOp .Or (a :: b :: rest) pos) (tOr tA tB') := by
  intro wh pins s σ H Q I h
  refine isTrue_or (thn (ha pins s σ H _ I h) fun c s1 ⟨H1, I1, q1⟩ => ?_)
  cases c with
  | true => exact ⟨H1, I1, q1⟩
  | false => exact hb wh pins s1 σ H1 Q I1 q1
theorem pt_not (ha : PT X a tA) : PT X (.UnaryOp .Not a pos) (tNot tA) := by
  intro pins s σ H Q I h
  exact isTrue_not (ha pins s σ H (fun c H1 => Q (!c) H1) I h)
noncomputable def tAndV (ta tb : TE) : TE := fun σ H Q => ta σ H fun x H1 => ∃ c, x = .bl c ∧ if c = true then tb σ H1 Q else Q (.bl false) H1
noncomputable def tOrV (ta tb : TE) : TE := fun σ H Q => ta σ H fun x H1 => ∃ c, x = .bl c ∧ if c = true then Q (.bl true) H1 else tb σ H1 Q
theorem pe_one {op} {t : TE} (h : PE X a t) : PE X (.BoolOp op [a] pos) t := fun pins s σ H Q I hw => BoolOp_one (h pins s σ H Q I hw)
theorem pe_and (ha : PE X a ta) (hb : PE X (.BoolOp .And (b :: rest) pos) tb) : PE X (.BoolOp .And (a :: b :: rest) pos) (tAndV ta tb) := by
  intro pins s σ H Q I h
  refine BoolOp_and (thn (ha pins s σ H _ I h) fun v s1 ⟨x, H1, I1, r1, q1⟩ => ?_)
  obtain ⟨c, rfl, q1⟩ := q1
  cases r1
  refine wpAny_truthy_bool ?_
  cases c with
  | true => exact hb pins s1 σ H1 Q I1 q1
  | false => exact ⟨.bl false, H1, I1, rfl, q1⟩
theorem pe_or (ha : PE X a ta) (hb : PE X (.BoolOp .Or (b :: rest) pos) tb) : PE X (.BoolOp .Or (a :: b :: rest) pos) (tOrV ta tb) := by
  intro pins s σ H Q I h
  refine BoolOp_or (thn (ha pins s σ H _ I h) fun v s1 ⟨x, H1, I1, r1, q1⟩ => ?_)
  obtain ⟨c, rfl, q1⟩ := q1
  cases r1
  refine wpAny_truthy_bool ?_
  cases c with
  | false => exact hb pins s1 σ H1 Q I1 q1
  | true => exact ⟨.bl true, H1, I1, rfl, q1⟩
end
end L2
namespace L2
open PySem PySem.Spec PyProof.Rows
noncomputable def SqL (K : PySem.W.Frag) (H : Hp) (a : Addr) (xs : List V) : Prop :=
  Rd H a (.lst xs) ∨
    ∃ (o : Obj) (its : Array Value) (n : Nat), K.lookup a = some o ∧ o.cls = .type "list" ∧ o.dict = none ∧ o.data = .seq its n ∧ its.size ≤ sizeLine ∧ Vals xs its.toList
noncomputable def SqT (K : PySem.W.Frag) (H : Hp) (a : Addr) (xs : List V) : Prop :=
  Rd H a (.tup xs) ∨
    ∃ (o : Obj) (its : Array Value) (n : Nat), K.lookup a = some o ∧ o.cls = .type "tuple" ∧ o.data = .seq its n ∧ its.size ≤ sizeLine ∧ Vals xs its.toList
noncomputable def absV : Value → Option V
  | .none => some .non
  | .bool b => some (.bl b)
  | .int i _ => some (.int i)
  | .str x _ => some (.str x)
  | .bytes b _ => some (.byt b)
  | .float b _ => some (.flt b)
  | .ref a => some (.ref a)
  | .type n => some (.ty n)
  | _ => none
theorem RelV.abs {x : V} {u : Value} (r : RelV x u) : absV u = some x := by
  cases x with
  | non => cases r; rfl
  | bl _ => cases r; rfl
  | int _ => obtain ⟨t, rfl⟩ := r; rfl
  | str _ => obtain ⟨t, rfl⟩ := r; rfl
  | byt _ => obtain ⟨t, rfl⟩ := r; rfl
  | flt _ => obtain ⟨t, rfl⟩ := r; rfl
  | ref _ => cases r; rfl
  | ty _ => cases r; rfl
theorem RelV.inj {x y : V} {u : Value} (r : RelV x u) (q : RelV y u) : x = y := Option.some.inj (r.abs.symm.trans q.abs)
theorem Vals.inj : ∀ {xs ys : List V} {us : List Value}, Vals xs us → Vals ys us → xs = ys
  | _, _, _, .nil, .nil => rfl
  | _, _, _, .cons r t, .cons r' t' => by rw [r.inj r', Vals.inj t t']
section
variable {X : Cx} {pins : List (Addr × Obj)} {σ : St} {H : Hp} {s : Shared} {a : Addr} {xs ys : List V}
theorem SqL.of {K : PySem.W.Frag} (h : H a = some (.lst xs)) : SqL K H a xs := .inl (.inl h)
theorem SqT.of {K : PySem.W.Frag} (h : H a = some (.tup xs)) : SqT K H a xs := .inl (.inl h)
theorem Inv.list (I : Inv X pins σ H s) (h : SqL X.K H a xs) : ∃ its : List Value, Vals xs its ∧ PlainL s.heap a its.toArray ∧ xs.length ≤ sizeLine := by
  rcases h with h | ⟨o, its, n, hk, hc, hd, hs, hz, r⟩
  · obtain ⟨z, its, n, r, e⟩ := h.ok I.hok
    exact ⟨its, r, ⟨_, n, e, rfl, rfl, rfl⟩, z⟩
  · refine ⟨its.toList, r, ⟨o, n, I.kIn a o hk, hc, hd, by simpa using hs⟩, ?_⟩
    have e := r.length
    simp only [Array.length_toList] at e
    omega
theorem Inv.tuple (I : Inv X pins σ H s) (h : SqT X.K H a xs) : ∃ its : List Value, Vals xs its ∧ IsTup s.heap a its.toArray ∧ xs.length ≤ sizeLine := by
  rcases h with h | ⟨o, its, n, hk, hc, hs, hz, r⟩
  · obtain ⟨z, its, r, p⟩ := h.ok I.hok
    exact ⟨its, r, p, z⟩
  · refine ⟨its.toList, r, ⟨o, I.kIn a o hk, hc, n, by simpa using hs⟩, ?_⟩
    have e := r.length
    simp only [Array.length_toList] at e
    omega
theorem Inv.list_inj (I : Inv X pins σ H s) (h : SqL X.K H a xs) (h' : SqL X.K H a ys) : xs = ys := by
  obtain ⟨its, r, ⟨o, n, e, _, _, d⟩, _⟩ := I.list h
  obtain ⟨its', r', ⟨o', n', e', _, _, d'⟩, _⟩ := I.list h'
  rw [e] at e'; cases e'
  rw [d] at d'
  injection d' with d1 _
  have : its = its' := by simpa using congrArg Array.toList d1
  subst this
  exact r.inj r'
end
noncomputable abbrev Cx.wish (X : Cx) (E : Value → Shared → Prop) : Cx := { X with xe := E }
noncomputable abbrev Cx.nox (X : Cx) : Cx := X.wish fun _ _ => False
theorem Cx.Ok.wish {X : Cx} (ok : X.Ok) (E : Value → Shared → Prop) : (X.wish E).Ok :=
  ⟨ok.mod, ok.kind, ok.glob, ok.blt, ok.above, ok.inj, ok.has, ok.cab, ok.hd, ok.frames, ok.stk, ok.exf, ok.bs, ok.bsz, ok.noex, ok.exfs, ok.funs, ok.frf⟩
theorem Cx.Ok.unwish {X : Cx} {E : Value → Shared → Prop} (ok : (X.wish E).Ok) : X.Ok :=
  ⟨ok.mod, ok.kind, ok.glob, ok.blt, ok.above, ok.inj, ok.has, ok.cab, ok.hd, ok.frames, ok.stk, ok.exf, ok.bs, ok.bsz, ok.noex, ok.exfs, ok.funs, ok.frf⟩
section
variable {X : Cx} {pins : List (Addr × Obj)} {σ : St} {H : Hp} {s : Shared} {E : Value → Shared → Prop}
theorem Inv.wish (I : Inv X pins σ H s) (E : Value → Shared → Prop) : Inv (X.wish E) pins σ H s := ⟨I.ok.wish E, I.os, I.bare, I.base, I.loc, I.cell, I.free, I.freeC, I.pin, I.hok, I.len⟩
theorem Inv.unwish (I : Inv (X.wish E) pins σ H s) : Inv X pins σ H s := ⟨I.ok.unwish, I.os, I.bare, I.base, I.loc, I.cell, I.free, I.freeC, I.pin, I.hok, I.len⟩
theorem SP.unwish {D : Ends} {f : Flow} {s' : Shared} (h : SP (X.wish E) pins D f s') : SP X pins D f s' := by
  cases f with
  | next => obtain ⟨σ', H', I, q⟩ := h; exact ⟨σ', H', I.unwish, q⟩
  | brk => obtain ⟨σ', H', I, q⟩ := h; exact ⟨σ', H', I.unwish, q⟩
  | cont => obtain ⟨σ', H', I, q⟩ := h; exact ⟨σ', H', I.unwish, q⟩
  | ret u => obtain ⟨v, σ', H', I, r, q⟩ := h; exact ⟨v, σ', H', I.unwish, r, q⟩
theorem PE.nox {e : Expr} {t : TE} (h : PE X.nox e t) : PE X e t := fun pins s σ H Q I hw =>
  wpAny_mono (h pins s σ H Q (I.wish _) hw) (fun _ _ ⟨v, H', I', r, q⟩ => ⟨v, H', I'.unwish, r, q⟩) fun _ _ z => False.elim z
theorem PT.nox {e : Expr} {t : TT} (h : PT X.nox e t) : PT X e t := fun pins s σ H Q I hw =>
  wpAny_mono (h pins s σ H Q (I.wish _) hw) (fun _ _ ⟨H', I', q⟩ => ⟨H', I'.unwish, q⟩) fun _ _ z => False.elim z
theorem PSs.nox {st : List Stmt} {t : TS} (h : PSs X.nox st t) : PSs X st t := fun pins s σ H D I hw =>
  wpAny_mono (h pins s σ H D (I.wish _) hw) (fun _ _ q => q.unwish) fun _ _ z => False.elim z
end
section
variable {X : Cx} {st : Stmt} {rest : List Stmt} {t u : TS} {e : Expr} {te : TE} {pos : Pos}
noncomputable def tNext : TS := fun D σ H => D.nx σ H
noncomputable def tSeq (t u : TS) : TS := fun D σ H => t { D with nx := u D } σ H
theorem pss_nil : PSs X [] tNext := fun _ _ σ H _ I h => wpAny_execs_nil ⟨σ, H, I, h⟩
theorem pss_cons (h1 : PS X st t) (h2 : PSs X rest u) : PSs X (st :: rest) (tSeq t u) := by
  intro pins s σ H D I h
  refine wpAny_execs_cons (thn (h1 pins s σ H { D with nx := u D } I h) fun f s1 q => ?_)
  cases f with
  | next =>
    obtain ⟨σ', H', I', q⟩ := q
    exact h2 pins s1 σ' H' D I' q
  | ret v => exact q
  | brk => exact q
  | cont => exact q
theorem pss_one (h1 : PS X st t) : PSs X [st] t := by
  intro pins s σ H D I h
  refine wpAny_execs_cons (thn (h1 pins s σ H D I h) fun f s1 q => ?_)
  cases f with
  | next => exact wpAny_execs_nil q
  | ret v => exact q
  | brk => exact q
  | cont => exact q
theorem Inv.quiet {pins : List (Addr × Obj)} {σ : St} {H : Hp} {s : Shared} (I : Inv X pins σ H s) : interactive X.env = false := by simp [interactive, I.ok.kind]
noncomputable def tDrop (te : TE) : TS := fun D σ H => te σ H fun _ H1 => D.nx σ H1
theorem ps_expr (he : PE X e te) (hs : swapsWith e none pos.line X.env = pure false := by rfl) : PS X (.Expr e pos) (tDrop te) := by
  intro pins s σ H D I h
  exact wpAny_Expr_any (thn (he pins s σ H _ I h) fun v s1 ⟨x, H1, I1, r1, q1⟩ => ⟨σ, H1, I1, q1⟩) I.quiet hs
noncomputable def tRet (te : TE) : TS := fun D σ H => te σ H D.rt
theorem ps_ret (he : PE X e te) : PS X (.Return (some e) pos) (tRet te) := by
  intro pins s σ H D I h
  exact wpAny_Return_some (thn (he pins s σ H _ I h) fun v s1 ⟨x, H1, I1, r1, q1⟩ => ⟨x, σ, H1, I1, r1, q1⟩)
noncomputable def tIfS (c : TT) (t u : TS) : TS := fun D σ H => c σ H fun b H1 => if b = true then t D σ H1 else u D σ H1
theorem ps_if {c : Expr} {a b : List Stmt} {tc : TT} (hc : PT X c tc) (ha : PSs X a t) (hb : PSs X b u) : PS X (.If c a b pos) (tIfS tc t u) := by
  intro pins s σ H D I h
  refine wpAny_If (thn (hc pins s σ H _ I h) fun d s1 ⟨H1, I1, q1⟩ => ?_)
  cases d with
  | true => exact ha pins s1 σ H1 D I1 q1
  | false => exact hb pins s1 σ H1 D I1 q1
end
noncomputable abbrev TG := V → St → Hp → (St → Hp → Prop) → Prop
noncomputable def PG (X : Cx) (target : Expr) (t : TG) : Prop :=
  ∀ (pins : List (Addr × Obj)) (s : Shared) (σ : St) (H : Hp) (v : V) (u : Value) (Q : St → Hp → Prop), Inv X pins σ H s → RelV v u → t v σ H Q →
    wpAny (model X.prog X.w) X.A (assign target X.env u) (fun _ s' => ∃ σ' H', Inv X pins σ' H' s' ∧ Q σ' H') X.xe s
noncomputable abbrev TSet := V → V → V → Hp → (Hp → Prop) → Prop
section
variable {X : Cx} {pos : Pos}
noncomputable def gName (i : Nat) : TG := fun v σ H Q => Q (σ.set i (some v)) H
theorem pg_name {i : Nat} {x : Str} (hN : X.N.Nodup) (hi : X.N[i]? = some x) (hx : Loc X.env.scope x) (hf : X.fn x = true ∨ X.env.scope.names.lookup x = some .local := by first | exact .inl rfl | exact .inr rfl | assumption) : PG X (.Name x pos) (gName i) := by
  intro pins s σ H v u Q I r h
  exact wpAny_assign_Name (store_ok I hN hi hx r (fun s' I' => ⟨_, H, I', h⟩) hf)
noncomputable def gSub (to ti : TE) (t : TSet) : TG := fun v σ H Q => to σ H fun o H1 => ti σ H1 fun i H2 => t o i v H2 fun H3 => Q σ H3
noncomputable def tAsg (te : TE) (g : TG) : TS := fun D σ H => te σ H fun x H1 => g x σ H1 D.nx
theorem ps_set {i : Nat} {x : Str} {e : Expr} {te : TE} {pos' : Pos} (hN : X.N.Nodup) (hi : X.N[i]? = some x) (hx : Loc X.env.scope x) (he : PE X e te) (hs : swapsWith e (some (.Name x pos')) pos.line X.env = pure false := by rfl) (hf : X.fn x = true ∨ X.env.scope.names.lookup x = some .local := by first | exact .inl rfl | exact .inr rfl | assumption) :
    PS X (.Assign [.Name x pos'] e pos) (tAsg te (gName i)) := by
  intro pins s σ H D I h
  refine wpAny_Assign_Name (thn (he pins s σ H _ I h) fun v s1 ⟨y, H1, I1, r1, q1⟩ => ?_) hs
  exact store_ok I1 hN hi hx r1 (fun s2 I2 => ⟨_, H1, I2, q1⟩) hf
end
section
variable {X : Cx} {pos : Pos}
noncomputable def tWhile (c : TT) (tb : TS) : TS := fun D σ H => ∃ W : Nat → St → Hp → Prop, (∃ m, W m σ H) ∧ ∀ m σ H, W m σ H →
  c σ H fun b H1 => if b = true then ∃ N : St → Hp → Prop, (∀ σ' H', N σ' H' → ∃ m', m' < m ∧ W m' σ' H') ∧ tb { D with nx := N, ct := N, bk := D.nx } σ H1 else D.nx σ H1
theorem ps_while {c : Expr} {body : List Stmt} {tc : TT} {tb : TS} (hp : PassesOwn (model X.prog X.w) X.A X.env X.xe) (hc : PT X c tc) (hb : PSs X body tb) : PS X (.While c body [] pos) (tWhile tc tb) := by
  intro pins s σ H D I h
  obtain ⟨W, ⟨m0, w0⟩, turn⟩ := h
  refine wpAny_While (codeAny_whileLoop (fun n s' => ∃ σ' H', Inv X pins σ' H' s' ∧ W n σ' H') ?_ m0 ⟨σ, H, I, w0⟩)
  rintro n s1 ⟨σ1, H1, I1, w1⟩
  refine wpAny_passesOwn hp (thn (hc pins s1 σ1 H1 _ I1 (turn n σ1 H1 w1)) fun b s2 ⟨H2, I2, q2⟩ => ?_)
  cases b with
  | true =>
    obtain ⟨N, hN, q2⟩ := q2
    rw [if_pos rfl]
    refine wpAny_passesOwn hp (thn (hb pins s2 σ1 H2 _ I2 q2) fun f s3 q3 => ?_)
    cases f with
    | next =>
      obtain ⟨σ3, H3, I3, n3⟩ := q3
      obtain ⟨m', hm, w3⟩ := hN σ3 H3 n3
      exact ⟨m', hm, σ3, H3, I3, w3⟩
    | cont =>
      obtain ⟨σ3, H3, I3, n3⟩ := q3
      obtain ⟨m', hm, w3⟩ := hN σ3 H3 n3
      exact ⟨m', hm, σ3, H3, I3, w3⟩
    | brk => exact q3
    | ret v => exact q3
  | false =>
    rw [if_neg Bool.false_ne_true]
    exact wpAny_execs_nil ⟨σ1, H2, I2, q2⟩
end
structure It where
  go : Nat → Hp → Prop
  yld : Nat → Hp → V → Hp → Prop
  stop : Nat → Hp → Prop
noncomputable def FpOk (X : Cx) (pins : List (Addr × Obj)) (H : Hp) (b : Addr) : Prop :=
  H b = none ∧ b ≠ X.env.locals ∧ b ∉ X.fs ∧ (b ∈ X.ex ∨ X.s₀.heap.objs.size ≤ b) ∧ (∀ x c, X.env.cells.lookup x = some c → c ≠ b) ∧ ∀ p ∈ X.pn ++ pins, p.1 ≠ b
theorem Inv.fpOk {X : Cx} {pins : List (Addr × Obj)} {σ : St} {H H' : Hp} {s : Shared} {b : Addr} (I : Inv X pins σ H s) (hb : s.heap.objs.size ≤ b) (hn : H' b = none) : FpOk X pins H' b := by
  refine ⟨hn, Nat.ne_of_gt (Nat.lt_of_lt_of_le I.lt hb), I.nofs hb, .inr (Nat.le_trans I.sz hb), fun x c e z => ?_, fun p hp z => ?_⟩
  · obtain ⟨v, q⟩ := I.cell x c e
    exact absurd (Nat.lt_of_lt_of_le q.lt (by rw [z]; exact hb)) (Nat.lt_irrefl _)
  · exact absurd (Nat.lt_of_lt_of_le (Heap.lt_size (I.pin p hp).1) (by rw [z]; exact hb)) (Nat.lt_irrefl _)
structure Turn (P : Program) (w : World) (K : PySem.W.Frag) (tg : Expr) (J : It) (fp : List Addr) (it : Addr) (tn : Nat → Heap → Prop) : Prop where
  mem : it ∈ fp
  obj : ∀ i h, tn i h → ∀ b ∈ fp, ∃ o, h.get? b = some o ∧ ∀ v, o.data ≠ .cell v
  keep : ∀ i h h', tn i h → (∀ b ∈ fp, ∀ o, h.get? b = some o → h'.get? b = some o) → tn i h'
  item : ∀ (X : Cx), X.prog = P → X.w = w → X.K = K → X.calm = true → ∀ (i : Nat) (pins : List (Addr × Obj)) (s : Shared) (σ : St) (H : Hp) (E : Value → Shared → Prop), Inv X pins σ H s → (∀ b ∈ fp, FpOk X pins H b) → tn i s.heap → J.go i H →
    wpAny (model P w) X.A (pyNext (.ref it)) (fun r s1 => ∃ u, r = some u ∧
      wpAny (model P w) X.A (letOwnedTupleGo tg (.ref it) u) (fun _ s2 => ∃ x H', Inv X pins σ H' s2 ∧ RelV x u ∧ J.yld i H x H' ∧ tn (i + 1) s2.heap ∧ ∀ b ∈ fp, H' b = none) E s1) E s
  done : ∀ (X : Cx), X.prog = P → X.w = w → X.K = K → X.calm = true → ∀ (i : Nat) (pins : List (Addr × Obj)) (s : Shared) (σ : St) (H : Hp) (E : Value → Shared → Prop), Inv X pins σ H s → (∀ b ∈ fp, FpOk X pins H b) → tn i s.heap → J.stop i H →
    wpAny (model P w) X.A (pyNext (.ref it)) (fun r s1 => r = none ∧ Inv X pins σ H s1) E s
  self : ∀ (A : Around) (i : Nat) (s : Shared) (Q : Value → Shared → Prop) (E : Value → Shared → Prop), tn i s.heap → Q (.ref it) s → wpAny (model P w) A (pyIter (.ref it)) Q E s
noncomputable abbrev TI := St → Hp → (It → Hp → Prop) → Prop
noncomputable def PIE (X : Cx) (pins : List (Addr × Obj)) (σ : St) (tg : Expr) (R : It → Hp → Prop) (itv : Value) (s2 : Shared) : Prop :=
  ∃ (it : Addr) (fp : List Addr) (tn : Nat → Heap → Prop) (J : It) (H' : Hp), itv = .ref it ∧ Inv X pins σ H' s2 ∧ Turn X.prog X.w X.K tg J fp it tn ∧ tn 0 s2.heap ∧ (∀ b ∈ fp, FpOk X pins H' b) ∧ R J H'
noncomputable def PI (X : Cx) (tg iter : Expr) (wi : TI) : Prop :=
  ∀ (pins : List (Addr × Obj)) (s : Shared) (σ : St) (H : Hp) (R : It → Hp → Prop), Inv X pins σ H s → wi σ H R →
    wpAny (model X.prog X.w) X.A (eval iter X.env) (fun v s1 => wpAny (model X.prog X.w) X.A (pyIter v) (PIE X pins σ tg R) X.xe s1) X.xe s
theorem go_of {M : Model} {A : Around} {E : Value → Shared → Prop} {s : Shared} {tg : Expr} {it : Addr} {u : Value} {o : Obj} {n : String} {vs : Array Value} {Q : Unit → Shared → Prop} (ho : s.heap.get? it = some o) (hc : o.cls = .type n) (hd : o.data = .fields vs)
    (hn : ["enumerate", "zip", "dict_itemiterator", "dict_reverseitemiterator", "odict_iterator", "itertools.zip_longest", "itertools.pairwise"].contains n = false) (hQ : Q () s) : wpAny M A (letOwnedTupleGo tg (.ref it) u) Q E s := by
  unfold letOwnedTupleGo
  cases tg <;> first
    | exact wpAny_pure hQ
    | (cases u <;> first
        | exact wpAny_pure hQ
        | (refine wpAny_bind (wpAny_load ho ?_)
           rw [hc, hd]
           show wpAny M A (if (["enumerate", "zip", "dict_itemiterator", "dict_reverseitemiterator", "odict_iterator", "itertools.zip_longest", "itertools.pairwise"].contains n && vs[0]? == some (rawInt _)) = true then _ else _) Q E s
           rw [if_neg (by intro h; rw [hn, Bool.false_and] at h; cases h)]
           exact wpAny_pure hQ))
noncomputable def Itl (K : PySem.W.Frag) (a : Addr) : It :=
  ⟨fun i H => ∃ xs x, SqL K H a xs ∧ xs[i]? = some x, fun i H x H' => H' = H ∧ ∀ xs, SqL K H a xs → xs[i]? = some x, fun i H => ∃ xs, SqL K H a xs ∧ xs.length ≤ i⟩
noncomputable def Itr (lo : Int) (n : Nat) : It := ⟨fun i _ => i < n, fun i H x H' => H' = H ∧ x = .int (lo + i), fun i _ => n ≤ i⟩
theorem turn_list {P : Program} {w : World} {K : PySem.W.Frag} {tg : Expr} (a it : Addr) : Turn P w K tg (Itl K a) [it] it (fun i h => h.IsListIter it a i) where
  mem := by simp
  obj := fun i h st b hb => by
    have e : b = it := by simpa using hb
    subst e
    obtain ⟨o, e, c, d⟩ := st
    exact ⟨o, e, fun v z => by rw [d] at z; cases z⟩
  keep := fun i h h' st k => st.at fun o e => k it (by simp) o e
  item := by
    intro X hP hw hK hc i pins s σ H E I hf st hg
    subst hP hw hK
    obtain ⟨xs, x, hq, hx⟩ := hg
    obtain ⟨its, rv, p, hz⟩ := I.list hq
    obtain ⟨u, hu, ru⟩ := rv.get hx
    obtain ⟨f0, f1, f2, f3, f4, f5⟩ := hf it (by simp)
    refine wpAny_pyNext_list_item st p.isList (x := u) (by simpa using hu) fun h' st' sb => ?_
    have I1 : Inv X pins σ H { s with heap := h' } := I.turned (t' := s.toks) (fun b o hb e => (sb.2 b hb).trans e) f0 f1 f3 f4 f5
    obtain ⟨o, e, c, d⟩ := id st'
    exact ⟨u, rfl, go_of (s := { s with heap := h' }) e c d (by decide) ⟨x, H, I1, ru, ⟨rfl, fun ys hy => by rw [I.list_inj hy hq]; exact hx⟩, st', fun b hb => (hf b hb).1⟩⟩
  done := by
    intro X hP hw hK hc i pins s σ H E I hf st hg
    subst hP hw hK
    obtain ⟨xs, hq, hx⟩ := hg
    obtain ⟨its, rv, p, hz⟩ := I.list hq
    obtain ⟨f0, f1, f2, f3, f4, f5⟩ := hf it (by simp)
    have hl := rv.length
    exact wpAny_pyNext_list_end (I.ok.hd hc) st p.isList (by simp; omega) fun h' eb => ⟨rfl, I.turned (t' := s.toks) (fun b o hb e => eb b o hb e) f0 f1 f3 f4 f5⟩
  self := fun _ _ _ _ _ st h => wpAny_pyIter_listiter st h
theorem turn_range {P : Program} {w : World} {K : PySem.W.Frag} {tg : Expr} (it : Addr) (lo : Int) (n : Nat) : Turn P w K tg (Itr lo n) [it] it (fun i h => IsRangeIter h it (lo + (i : Nat) * 1) ((n : Int) - (i : Nat)) 1) where
  mem := by simp
  obj := fun i h st b hb => by
    have e : b = it := by simpa using hb
    subst e
    exact ⟨_, st, fun v z => by
      have z' : Data.fields _ = Data.cell v := z
      cases z'⟩
  keep := fun i h h' st k => k it (by simp) _ st
  item := by
    intro X hP hw hK hc i pins s σ H E I hf st hg
    subst hP hw hK
    obtain ⟨f0, f1, f2, f3, f4, f5⟩ := hf it (by simp)
    have W := Walks.range (prog := X.prog) (w := X.w) (I.ok.hd hc) it lo 1 n
    refine W.item i s _ _ hg st fun v h' tk hv st' kk => ?_
    obtain ⟨t, rfl⟩ := hv
    have I1 : Inv X pins σ H { s with heap := h', toks := tk } := I.turned (fun b o hb e => kk b o (by simpa using hb) e) f0 f1 f3 f4 f5
    refine ⟨_, rfl, go_of (s := { s with heap := h', toks := tk }) (n := "range_iterator") st' rfl rfl (by decide) ⟨.int (lo + i), H, I1, ⟨t, ?_⟩, ⟨rfl, rfl⟩, st', fun b hb => (hf b hb).1⟩⟩
    rw [Int.mul_one]
  done := by
    intro X hP hw hK hc i pins s σ H E I hf st hg
    subst hP hw hK
    obtain ⟨f0, f1, f2, f3, f4, f5⟩ := hf it (by simp)
    exact wpAny_pyNext_range_end (I.ok.hd hc) st (by have : n ≤ i := hg; omega) fun h' eb => ⟨rfl, I.turned (t' := s.toks) (fun b o hb e => eb b o hb e) f0 f1 f3 f4 f5⟩
  self := fun _ _ _ _ _ st h => wpAny_pyIter_rangeiter st h
end L2
namespace L2
open PySem PySem.Spec PyProof.Rows
section
variable {X : Cx} {tg : Expr}
noncomputable def iList (K : PySem.W.Frag) (tl : TE) : TI := fun σ H R => tl σ H fun x H1 => ∃ a, x = .ref a ∧ (∃ xs, SqL K H1 a xs) ∧ R (Itl K a) H1
theorem pi_list {l : Expr} {tl : TE} (hl : PE X l tl) : PI X tg l (iList X.K tl) := by
  intro pins s σ H R I h
  refine thn (hl pins s σ H _ I h) fun v s1 ⟨x, H1, I1, r1, q1⟩ => ?_
  obtain ⟨a, e, ⟨xs, hq⟩, q⟩ := q1
  subst e
  cases r1
  obtain ⟨its, rv, p, hz⟩ := I1.list hq
  refine wpAny_pyIter_list p.isList ?_
  refine ⟨s1.heap.objs.size, [s1.heap.objs.size], _, _, H1, rfl, I1.kept (t' := s1.toks) fun b o e => Heap.get?_push_of_some _ e, turn_list a _, ⟨_, Heap.get?_push_size _ rfl, rfl, rfl⟩, fun b hb => ?_, q⟩
  have e : b = s1.heap.objs.size := by simpa using hb
  subst e
  exact I1.fpOk (Nat.le_refl _) (I1.hok.fresh (Nat.le_refl _))
theorem range_it {pins : List (Addr × Obj)} {σ : St} {H : Hp} {s : Shared} {R : It → Hp → Prop} {E : Value → Shared → Prop} {lo hi : Int} {t u v : Tok} {tk : Nat} (I : Inv X pins σ H s) (h1 : -(2 ^ 62) ≤ lo) (h2 : lo < 2 ^ 62) (h3 : -(2 ^ 62) ≤ hi) (h4 : hi < 2 ^ 62)
    (q : R (Itr lo (hi - lo).toNat) H) : wpAny (model X.prog X.w) X.A (pyIter (.ref s.heap.objs.size)) (PIE X pins σ tg R) E { s with heap := s.heap.push { cls := .type "range", data := .fields #[.int lo t, .int hi u, .int 1 v] }, toks := tk } := by
  refine wpAny_pyIter_range (IsRange.new ..) (small_one h1 h2 h3 h4) ?_
  have I1 : Inv X pins σ H { s with heap := s.heap.push { cls := .type "range", data := .fields #[.int lo t, .int hi u, .int 1 v] }, toks := tk } := I.kept fun b o e => Heap.get?_push_of_some _ e
  refine ⟨(s.heap.push { cls := .type "range", data := .fields #[.int lo t, .int hi u, .int 1 v] }).objs.size, [(s.heap.push { cls := .type "range", data := .fields #[.int lo t, .int hi u, .int 1 v] }).objs.size], _, _, H, rfl,
    I1.kept (t' := tk) fun b o e => Heap.get?_push_of_some _ e, turn_range _ lo (hi - lo).toNat, ?_, fun b hb => ?_, q⟩
  · have e1 : lo + ((0 : Nat) : Int) * 1 = lo := by simp
    have e2 : (((hi - lo).toNat : Nat) : Int) - ((0 : Nat) : Int) = Builtin.Range.rangeSize lo hi 1 := by rw [rangeSize_one]; split <;> omega
    show IsRangeIter _ _ (lo + ((0 : Nat) : Int) * 1) ((((hi - lo).toNat : Nat) : Int) - ((0 : Nat) : Int)) 1
    rw [e1, e2]
    exact Heap.get?_push_size _ rfl
  · have e : b = (s.heap.push { cls := .type "range", data := .fields #[.int lo t, .int hi u, .int 1 v] }).objs.size := by simpa using hb
    subst e
    exact I1.fpOk (Nat.le_refl _) (I1.hok.fresh (Nat.le_refl _))
noncomputable def iRng1 (ta : TA) : TI := fun σ H R => ta σ H fun vs H1 => ∃ j : Int, vs = [.int j] ∧ -(2 ^ 62) ≤ j ∧ j < 2 ^ 62 ∧ R (Itr 0 j.toNat) H1
noncomputable def iRng2 (ta : TA) : TI := fun σ H R => ta σ H fun vs H1 => ∃ i j : Int, vs = [.int i, .int j] ∧ (-(2 ^ 62) ≤ i ∧ i < 2 ^ 62 ∧ -(2 ^ 62) ≤ j ∧ j < 2 ^ 62) ∧ R (Itr i (j - i).toNat) H1
theorem pi_range1 {a : Expr} {ta : TA} {p pos : Pos} (hg : Gl X "range") (hm : X.mg "range" = none) (ha : PA X [a] ta) (hs : starEach [a] X.env = [(false, eval a X.env)] := by rfl) : PI X tg (.Call (.Name "range" p) [a] [] pos) (iRng1 ta) := by
  intro pins s σ H R I h
  refine Call_ (ld_blt I hg hm boot_range (PyProof.Rows.callWith_type1 (thn (ha pos pins s σ H _ I h) fun us s1 ⟨vs, H1, I1, r1, q1⟩ => ?_) hs rfl))
  obtain ⟨j, e, q1, q2, q⟩ := q1
  subst e
  cases r1 with
  | cons r rr =>
    cases rr
    obtain ⟨t, rfl⟩ := r
    exact call_range_1 (range_it I1 (by omega) (by omega) q1 q2 (by simpa using q))
theorem pi_range2 {a b : Expr} {ta : TA} {p pos : Pos} (hg : Gl X "range") (hm : X.mg "range" = none) (ha : PA X [a, b] ta) (hs : starEach [a, b] X.env = [(false, eval a X.env), (false, eval b X.env)] := by rfl) (hs2 : starEach [b] X.env = [(false, eval b X.env)] := by rfl) :
    PI X tg (.Call (.Name "range" p) [a, b] [] pos) (iRng2 ta) := by
  intro pins s σ H R I h
  refine Call_ (ld_blt I hg hm boot_range (PyProof.Rows.callWith_type1 (thn (ha pos pins s σ H _ I h) fun us s1 ⟨vs, H1, I1, r1, q1⟩ => ?_) (by rw [hs, hs2]) (by rw [hs2]; rfl)))
  obtain ⟨i, j, e, ⟨q1, q2, q3, q4⟩, q⟩ := q1
  subst e
  cases r1 with
  | cons r rr =>
    cases rr with
    | cons r' rr =>
      cases rr
      obtain ⟨t, rfl⟩ := r
      obtain ⟨t', rfl⟩ := r'
      exact call_range_2 (range_it I1 q1 q2 q3 q4 q)
noncomputable def tFor (wi : TI) (g : TG) (tb : TS) : TS := fun D σ H => wi σ H fun J H1 => ∃ W : Nat → Nat → St → Hp → Prop, (∃ m, W 0 m σ H1) ∧ ∀ i m σ H, W i m σ H →
  (J.stop i H ∧ D.nx σ H) ∨ (J.go i H ∧ ∃ N : St → Hp → Prop, (∀ σ' H', N σ' H' → ∃ m', m' < m ∧ W (i + 1) m' σ' H') ∧ ∀ x H', J.yld i H x H' → g x σ H' fun σ2 H2 => tb { D with nx := N, ct := N, bk := D.nx } σ2 H2)
noncomputable def pinsAt (fp : List Addr) (h : Heap) : List (Addr × Obj) := fp.filterMap fun b => (h.get? b).map fun o => (b, o)
theorem mem_pinsAt {fp : List Addr} {h : Heap} {b : Addr} {o : Obj} (hb : b ∈ fp) (e : h.get? b = some o) : (b, o) ∈ pinsAt fp h := List.mem_filterMap.mpr ⟨b, hb, by rw [e]; rfl⟩
theorem of_pinsAt {fp : List Addr} {h : Heap} {p : Addr × Obj} (hp : p ∈ pinsAt fp h) : p.1 ∈ fp ∧ h.get? p.1 = some p.2 := by
  obtain ⟨b, hb, e⟩ := List.mem_filterMap.mp hp
  cases q : h.get? b with
  | none => rw [q] at e; cases e
  | some o =>
    rw [q] at e
    have e' : (b, o) = p := Option.some.inj e
    subst e'
    exact ⟨hb, q⟩
theorem Inv.pinned {pins : List (Addr × Obj)} {σ : St} {H : Hp} {s : Shared} {fp : List Addr} (I : Inv X pins σ H s) (hf : ∀ b ∈ fp, FpOk X pins H b) (ho : ∀ b ∈ fp, ∃ o, s.heap.get? b = some o ∧ ∀ v, o.data ≠ .cell v) : Inv X (pins ++ pinsAt fp s.heap) σ H s :=
  I.pins_of fun p hp => (List.mem_append.mp hp).elim (fun z => I.pin p (List.mem_append_right _ z)) fun z => by
    obtain ⟨hb, e⟩ := of_pinsAt z
    obtain ⟨f0, f1, f2, _⟩ := hf p.1 hb
    obtain ⟨o, e', d⟩ := ho p.1 hb
    rw [e] at e'; cases e'
    exact ⟨e, f0, f1, f2, d⟩
theorem Inv.unpinned {pins pl : List (Addr × Obj)} {σ : St} {H : Hp} {s : Shared} (I : Inv X (pins ++ pl) σ H s) : Inv X pins σ H s := I.pins_of fun p hp => I.pin p (List.mem_append_right _ (List.mem_append_left _ hp))
theorem ps_for {iter : Expr} {body : List Stmt} {wi : TI} {g : TG} {tb : TS} {pos : Pos} (hp : PassesOwn (model X.prog X.w) X.A X.env X.xe) (hc : X.calm = true) (hi : PI X tg iter wi) (hg : PG X tg g) (hb : PSs X body tb)
    (hs : ∀ x, foldedSetIterable iter X.env x = pure x := by intro _; rfl) : PS X (.For tg iter body [] pos) (tFor wi g tb) := by
  intro pins s σ H D I h
  refine wpAny_For (thn (hi pins s σ H _ I h) fun v s1 h1 => thn h1 fun itv s2 h2 => ?_) hs
  obtain ⟨it, fp, tn, J, H2, e, I2, T, st2, f2, W, ⟨m0, w0⟩, turn⟩ := h2
  subst e
  have stat : ∀ {H' : Hp}, (∀ b ∈ fp, H' b = none) → ∀ b ∈ fp, FpOk X pins H' b := fun hn b hb => ⟨hn b hb, (f2 b hb).2⟩
  refine codeAny_forLoop_any (fun n s' => ∃ i σ' H', Inv X pins σ' H' s' ∧ tn i s'.heap ∧ (∀ b ∈ fp, H' b = none) ∧ W i n σ' H') ?_ m0 ⟨0, σ, H2, I2, st2, fun b hb => (f2 b hb).1, w0⟩
  rintro n s3 ⟨i, σ3, H3, I3, st3, fr3, w3⟩
  rcases turn i n σ3 H3 w3 with ⟨stop, qn⟩ | ⟨go, N, hN, step⟩
  · refine wpAny_passesOwn hp (thn (T.done X rfl rfl rfl hc i pins s3 σ3 H3 X.xe I3 (stat fr3) st3 stop) fun r s4 ⟨hr, I4⟩ => ?_)
    subst hr
    exact wpAny_execs_nil ⟨σ3, H3, I4, qn⟩
  · refine wpAny_passesOwn hp (thn (T.item X rfl rfl rfl hc i pins s3 σ3 H3 X.xe I3 (stat fr3) st3 go) fun r s4 ⟨u, hr, h4⟩ => ?_)
    subst hr
    refine wpAny_passesOwn hp (thn h4 fun _ s5 ⟨x, H5, I5, r5, y5, st5, fr5⟩ => ?_)
    have I5' := I5.pinned (stat fr5) (T.obj _ _ st5)
    refine wpAny_passesOwn hp (thn (hg _ s5 σ3 H5 x u _ I5' r5 (step x H5 y5)) fun _ s6 ⟨σ6, H6, I6, q6⟩ => ?_)
    refine wpAny_passesOwn hp (thn (hb _ s6 σ6 H6 _ I6 q6) fun f s7 q7 => ?_)
    have again : ∀ {σ7 : St} {H7 : Hp}, Inv X (pins ++ pinsAt fp s5.heap) σ7 H7 s7 → N σ7 H7 → ∃ m, m < n ∧ ∃ i σ' H', Inv X pins σ' H' s7 ∧ tn i s7.heap ∧ (∀ b ∈ fp, H' b = none) ∧ W i m σ' H' := fun {σ7 H7} I7 n7 => by
      obtain ⟨m', hm, w7⟩ := hN σ7 H7 n7
      refine ⟨m', hm, i + 1, σ7, H7, I7.unpinned, T.keep _ _ _ st5 fun b hb o e => (I7.pin (b, o) (List.mem_append_right _ (List.mem_append_right _ (mem_pinsAt hb e)))).1, fun b hb => ?_, w7⟩
      obtain ⟨o, e, d⟩ := T.obj _ _ st5 b hb
      exact (I7.pin (b, o) (List.mem_append_right _ (List.mem_append_right _ (mem_pinsAt hb e)))).2.1
    cases f with
    | next => obtain ⟨σ7, H7, I7, n7⟩ := q7; exact again I7 n7
    | cont => obtain ⟨σ7, H7, I7, n7⟩ := q7; exact again I7 n7
    | brk => obtain ⟨σ7, H7, I7, q7⟩ := q7; exact ⟨σ7, H7, I7.unpinned, q7⟩
    | ret v => obtain ⟨x7, σ7, H7, I7, r7, q7⟩ := q7; exact ⟨x7, σ7, H7, I7.unpinned, r7, q7⟩
end
end L2
namespace L2
open PySem PySem.Spec PyProof.Rows
noncomputable abbrev R2 := V → V → Hp → VK → Prop
noncomputable def OpR (X : Cx) (f : Value → Value → Sem Value) (r : R2) : Prop :=
  ∀ (pins : List (Addr × Obj)) (s : Shared) (σ : St) (H : Hp) (x y : V) (v u : Value) (Q : VK), Inv X pins σ H s → RelV x v → RelV y u → r x y H Q →
    wpAny (model X.prog X.w) X.A (f v u) (EP X pins σ Q) X.xe s
noncomputable def UnR (X : Cx) (f : Value → Sem Value) (r : V → Hp → VK → Prop) : Prop :=
  ∀ (pins : List (Addr × Obj)) (s : Shared) (σ : St) (H : Hp) (x : V) (v : Value) (Q : VK), Inv X pins σ H s → RelV x v → r x H Q →
    wpAny (model X.prog X.w) X.A (f v) (EP X pins σ Q) X.xe s
noncomputable def CallR (X : Cx) (f : Value) (r : List V → Hp → VK → Prop) : Prop :=
  ∀ (pins : List (Addr × Obj)) (s : Shared) (σ : St) (H : Hp) (xs : List V) (us : List Value) (Q : VK), Inv X pins σ H s → Vals xs us → r xs H Q →
    wpAny (model X.prog X.w) X.A (call f us) (EP X pins σ Q) X.xe s
noncomputable def tOp (r : R2) (ta tb : TE) : TE := fun σ H Q => ta σ H fun x H1 => tb σ H1 fun y H2 => r x y H2 Q
noncomputable def tUn (r : V → Hp → VK → Prop) (ta : TE) : TE := fun σ H Q => ta σ H fun x H1 => r x H1 Q
noncomputable def rI (C : Int → Int → Prop) (g : Int → Int → V) : R2 := fun x y H Q => ∃ i j, x = .int i ∧ y = .int j ∧ C i j ∧ Q (g i j) H
noncomputable def rI0 (g : Int → Int → V) : R2 := fun x y H Q => ∃ i j, x = .int i ∧ y = .int j ∧ Q (g i j) H
noncomputable def rU (g : Int → V) : V → Hp → VK → Prop := fun x H Q => ∃ i, x = .int i ∧ Q (g i) H
section
variable {X : Cx} {a b c : Expr} {ta tb tc : TE} {pos : Pos}
theorem binT (ha : PE X a ta) (hb : PE X b tb) {pins : List (Addr × Obj)} {s : Shared} {σ : St} {H : Hp} {R : V → V → Hp → Prop} (I : Inv X pins σ H s)
    (h : ta σ H fun x H1 => tb σ H1 fun y H2 => R x y H2) {Q : Value → Shared → Prop} {f : Value → Value → Sem Value}
    (hf : ∀ v u s2 x y H2, Inv X pins σ H2 s2 → RelV x v → RelV y u → R x y H2 → wpAny (model X.prog X.w) X.A (f v u) Q X.xe s2) :
    wpAny (model X.prog X.w) X.A (eval a X.env) (fun v s₁ => wpAny (model X.prog X.w) X.A (eval b X.env) (fun u s₂ => wpAny (model X.prog X.w) X.A (f v u) Q X.xe s₂) X.xe s₁) X.xe s := by
  refine thn (ha pins s σ H _ I h) fun v s1 ⟨x, H1, I1, r1, q1⟩ => ?_
  refine thn (hb pins s1 σ H1 _ I1 q1) fun u s2 ⟨y, H2, I2, r2, q2⟩ => ?_
  exact hf v u s2 x y H2 I2 r1 r2 q2
theorem pe_op {op : Operator} {r : R2} (ho : OpR X (binaryOp op) r) (ha : PE X a ta) (hb : PE X b tb) : PE X (.BinOp a op b pos) (tOp r ta tb) := by
  intro pins s σ H Q I h
  exact wpAny_BinOp (binT ha hb I h fun v u s2 x y H2 I2 rx ry q => ho pins s2 σ H2 x y v u Q I2 rx ry q)
theorem pe_un {op : UnaryOp} {r : V → Hp → VK → Prop} (ho : UnR X (unaryOp op) r) (ha : PE X a ta) : PE X (.UnaryOp op a pos) (tUn r ta) := by
  intro pins s σ H Q I h
  exact UnaryOp_ (thn (ha pins s σ H _ I h) fun v s1 ⟨x, H1, I1, r1, q1⟩ => ho pins s1 σ H1 x v Q I1 r1 q1)
theorem opI {f : Value → Value → Sem Value} {C : Int → Int → Prop} {g : Int → Int → Int}
    (rule : ∀ (i j : Int) (t u : Tok) (s : Shared) (Q : Value → Shared → Prop) (E : Value → Shared → Prop), C i j → Q (.int (g i j) s.toks) { s with toks := s.toks + 1 } → wpAny (model X.prog X.w) X.A (f (.int i t) (.int j u)) Q E s) :
    OpR X f (rI C fun i j => .int (g i j)) := by
  intro pins s σ H x y v u Q I rx ry h
  obtain ⟨i, j, rfl, rfl, hc, q⟩ := h
  obtain ⟨t, rfl⟩ := rx
  obtain ⟨t', rfl⟩ := ry
  exact rule i j t t' s _ _ hc ⟨.int (g i j), H, I.tok _, ⟨_, rfl⟩, q⟩
theorem opI0 {f : Value → Value → Sem Value} {g : Int → Int → Int}
    (rule : ∀ (i j : Int) (t u : Tok) (s : Shared) (Q : Value → Shared → Prop) (E : Value → Shared → Prop), Q (.int (g i j) s.toks) { s with toks := s.toks + 1 } → wpAny (model X.prog X.w) X.A (f (.int i t) (.int j u)) Q E s) :
    OpR X f (rI0 fun i j => .int (g i j)) := by
  intro pins s σ H x y v u Q I rx ry h
  obtain ⟨i, j, rfl, rfl, q⟩ := h
  obtain ⟨t, rfl⟩ := rx
  obtain ⟨t', rfl⟩ := ry
  exact rule i j t t' s _ _ ⟨.int (g i j), H, I.tok _, ⟨_, rfl⟩, q⟩
theorem opB0 {f : Value → Value → Sem Value} {g : Int → Int → Bool}
    (rule : ∀ (i j : Int) (t u : Tok) (s : Shared) (Q : Value → Shared → Prop) (E : Value → Shared → Prop), Q (.bool (g i j)) s → wpAny (model X.prog X.w) X.A (f (.int i t) (.int j u)) Q E s) :
    OpR X f (rI0 fun i j => .bl (g i j)) := by
  intro pins s σ H x y v u Q I rx ry h
  obtain ⟨i, j, rfl, rfl, q⟩ := h
  obtain ⟨t, rfl⟩ := rx
  obtain ⟨t', rfl⟩ := ry
  exact rule i j t t' s _ _ ⟨.bl (g i j), H, I, rfl, q⟩
noncomputable def CDiv (i j : Int) : Prop := 0 < j ∧ j < 1073741824
noncomputable def CMul (i j : Int) : Prop := (-(2 ^ 64) < i ∧ i < 2 ^ 64) ∨ (-(2 ^ 64) < j ∧ j < 2 ^ 64)
theorem CMul.ok {i j : Int} (h : CMul i j) : IntMulOk i j := by
  rcases h with ⟨h1, h2⟩ | ⟨h1, h2⟩
  · exact .of_left (intBits_le_64 h1 h2)
  · exact .of_right (intBits_le_64 h1 h2)
theorem op_add : OpR X (binaryOp .Add) (rI0 fun i j => .int (i + j)) := opI0 fun _ _ _ _ _ _ _ q => add_int q
theorem op_sub : OpR X (binaryOp .Sub) (rI0 fun i j => .int (i - j)) := opI0 fun _ _ _ _ _ _ _ q => sub_int q
theorem op_mul : OpR X (binaryOp .Mult) (rI CMul fun i j => .int (i * j)) := opI fun _ _ _ _ _ _ _ hc q => mul_int q hc.ok
theorem op_fdiv : OpR X (binaryOp .FloorDiv) (rI CDiv fun i j => .int (i / j)) := opI fun i j _ _ _ _ _ hc q => by
  have h1 : (0 : Int) < j := hc.1
  have h2 : j < 1073741824 := hc.2
  exact floordiv_int (by omega) (by rw [Int.fdiv_eq_ediv_of_nonneg i (by omega)]; exact q) (.inl (PyProof.noPylong_small (by omega)))
theorem op_mod : OpR X (binaryOp .Mod) (rI (fun _ j => 0 < j) fun i j => .int (i % j)) := opI fun i j _ _ _ _ _ hc q => by
  have h1 : (0 : Int) < j := hc
  exact mod_int' (by omega) (by rw [Int.fmod_eq_emod_of_nonneg i (by omega)]; exact q)
theorem unI {f : Value → Sem Value} {g : Int → Int}
    (rule : ∀ (i : Int) (t : Tok) (s : Shared) (Q : Value → Shared → Prop) (E : Value → Shared → Prop), Q (.int (g i) s.toks) { s with toks := s.toks + 1 } → wpAny (model X.prog X.w) X.A (f (.int i t)) Q E s) :
    UnR X f (rU fun i => .int (g i)) := by
  intro pins s σ H x v Q I rx h
  obtain ⟨i, rfl, q⟩ := h
  obtain ⟨t, rfl⟩ := rx
  exact rule i t s _ _ ⟨.int (g i), H, I.tok _, ⟨_, rfl⟩, q⟩
theorem un_neg : UnR X (unaryOp .USub) (rU fun i => .int (-i)) := unI fun _ _ _ _ _ q => neg_int q
end
section
variable {X : Cx} {a b c : Expr} {ta tb tc : TE} {pos : Pos}
theorem fin_bl {pins : List (Addr × Obj)} {σ : St} {H : Hp} {s : Shared} {Q : VK} {k k' : Bool} (I : Inv X pins σ H s) (q : Q (.bl k) H) (e : k = k') : EP X pins σ Q (.bool k') s := by
  subst e
  exact ⟨.bl k, H, I, rfl, q⟩
theorem op_lt : OpR X (compareOp .Lt) (rI0 fun i j => .bl (decide (i < j))) := opB0 fun _ _ _ _ _ _ _ q => lt_int q
theorem op_le : OpR X (compareOp .LtE) (rI0 fun i j => .bl (decide (i ≤ j))) := opB0 fun _ _ _ _ _ _ _ q => le_int q
theorem op_gt : OpR X (compareOp .Gt) (rI0 fun i j => .bl (decide (j < i))) := opB0 fun _ _ _ _ _ _ _ q => gt_int q
theorem op_notN : OpR X (compareOp .IsNot) (fun x y H Q => y = .non ∧ Q (.bl (!decide (x = .non))) H) := by
  intro pins s σ H x y v u Q I rx ry h
  obtain ⟨rfl, q⟩ := h
  cases ry
  refine isnot_none_gen (fin_bl I q ?_)
  cases x <;> first
    | (cases rx; rfl)
    | (obtain ⟨t, rfl⟩ := rx; rfl)
theorem OpR.or {f : Value → Value → Sem Value} {r r' : R2} (h : OpR X f r) (h' : OpR X f r') : OpR X f (fun x y H Q => r x y H Q ∨ r' x y H Q) := by
  intro pins s σ H x y v u Q I rx ry q
  rcases q with q | q
  · exact h pins s σ H x y v u Q I rx ry q
  · exact h' pins s σ H x y v u Q I rx ry q
theorem nomark (b : Expr) {op : CmpOp} (h : op ≠ .In := by decide) (h2 : op ≠ .NotIn := by decide) : behindInMarks op b = false := by
  have e1 : (op == CmpOp.In) = false := by cases op <;> first | rfl | exact absurd rfl h
  have e2 : (op == CmpOp.NotIn) = false := by cases op <;> first | rfl | exact absurd rfl h2
  cases b <;> simp [behindInMarks, e1, e2]
theorem pe_cmpR {op : CmpOp} {r : R2} (ho : OpR X (compareOp op) r) (ha : PE X a ta) (hb : PE X b tb) (hm : behindInMarks op b = false) : PE X (.Compare a [op] [b] pos) (tOp r ta tb) := by
  intro pins s σ H Q I h
  exact wpAny_Compare1 (binT ha hb I h fun v u s2 x y H2 I2 rx ry q => ho pins s2 σ H2 x y v u Q I2 rx ry q) hm
noncomputable def tTest (t : TE) : TT := fun σ H Q => t σ H fun x H' => ∃ k, x = .bl k ∧ Q k H'
theorem pt_cmpR {op : CmpOp} {r : R2} (ho : OpR X (compareOp op) r) (ha : PE X a ta) (hb : PE X b tb) (hm : behindInMarks op b = false) : PT X (.Compare a [op] [b] pos) (tTest (tOp r ta tb)) := by
  intro pins s σ H Q I h
  refine wpAny_isTrue_Compare1 (thn (ha pins s σ H _ I h) fun v s1 ⟨x, H1, I1, r1, q1⟩ => thn (hb pins s1 σ H1 _ I1 q1) fun u s2 ⟨y, H2, I2, r2, q2⟩ =>
    thn (ho pins s2 σ H2 x y v u _ I2 r1 r2 q2) fun c s3 ⟨z, H3, I3, r3, k, e, q3⟩ => ?_) hm
  subst e
  cases r3
  exact wpAny_truthy_bool ⟨H3, I3, q3⟩
noncomputable def tChain (r r' : R2) (ta tb tc : TE) : TE := fun σ H Q => ta σ H fun x H1 => tb σ H1 fun y H2 => r x y H2 fun z H3 => ∃ k, z = .bl k ∧
  (if k = true then tc σ H3 fun w' H4 => r' y w' H4 Q else Q (.bl false) H3)
theorem pt_chain {op op' : CmpOp} {r r' : R2} (ho : OpR X (compareOp op) r) (ho' : OpR X (compareOp op') r') (ha : PE X a ta) (hb : PE X b tb) (hc : PE X c tc)
    (hm : lastMarks [op, op'] [b, c] = false := by with_unfolding_all rfl) : PT X (.Compare a [op, op'] [b, c] pos) (tTest (tChain r r' ta tb tc)) := by
  intro pins s σ H Q I h
  refine isTrue_chain (thn (ha pins s σ H _ I h) fun v s1 ⟨x, H1, I1, r1, q1⟩ => test_link (thn (hb pins s1 σ H1 _ I1 q1) fun u s2 ⟨y, H2, I2, r2, q2⟩ =>
    thn (ho pins s2 σ H2 x y v u _ I2 r1 r2 q2) fun d s3 ⟨z, H3, I3, r3, k, e, q3⟩ => ?_)) hm
  subst e
  cases r3
  refine wpAny_truthy_bool ?_
  cases k with
  | false =>
    obtain ⟨k', e', q'⟩ := q3
    cases e'
    exact ite_ff ⟨H3, I3, q'⟩
  | true =>
    refine ite_tt (test_last (thn (hc pins s3 σ H3 _ I3 q3) fun w' s4 ⟨z', H4, I4, r4, q4⟩ => thn (ho' pins s4 σ H4 y z' u w' _ I4 r2 r4 q4) fun d' s5 ⟨z2, H5, I5, r5, k2, e2, q5⟩ => ?_))
    subst e2
    cases r5
    exact wpAny_truthy_bool ⟨H5, I5, q5⟩
theorem line63 : (sizeLine : Nat) < 2 ^ 63 := by rw [sizeLine_eq]; decide
theorem op_add_str : OpR X (binaryOp .Add) (fun x y H Q => ∃ i j, x = .str i ∧ y = .str j ∧ i.length + j.length ≤ sizeLine ∧ Q (.str (i ++ j)) H) := by
  intro pins s σ H x y v u Q I rx ry h
  obtain ⟨i, j, rfl, rfl, hz, q⟩ := h
  obtain ⟨t, rfl⟩ := rx
  obtain ⟨t', rfl⟩ := ry
  exact add_str (fun t' tk => ⟨.str (i ++ j), H, I.tok _, ⟨_, rfl⟩, q⟩) hz
theorem vals1 {x : V} {us : List Value} (r : Vals [x] us) : ∃ u, us = [u] ∧ RelV x u := by
  cases r with
  | cons r1 r2 => cases r2; exact ⟨_, rfl, r1⟩
theorem vals2 {x y : V} {us : List Value} (r : Vals [x, y] us) : ∃ u w', us = [u, w'] ∧ RelV x u ∧ RelV y w' := by
  cases r with
  | cons r1 r2 =>
    cases r2 with
    | cons r3 r4 => cases r4; exact ⟨_, _, rfl, r1, r3⟩
theorem call_max2 (hc : X.calm = true) : CallR X (.builtin "max") (fun xs H Q => ∃ i j, xs = [.int i, .int j] ∧ Q (.int (if j > i then j else i)) H) := by
  intro pins s σ H xs us Q I r h
  obtain ⟨i, j, rfl, q⟩ := h
  obtain ⟨u, w', rfl, ⟨t, rfl⟩, ⟨t', rfl⟩⟩ := vals2 r
  refine max_two_ints (I.ok.hd hc) fun h' tk k => ⟨_, H, I.kept k, ?_, q⟩
  by_cases hj : j > i
  · rw [if_pos hj, if_pos hj]; exact ⟨_, rfl⟩
  · rw [if_neg hj, if_neg hj]; exact ⟨_, rfl⟩
theorem call_min2 (hc : X.calm = true) : CallR X (.builtin "min") (fun xs H Q => ∃ i j, xs = [.int i, .int j] ∧ Q (.int (if j < i then j else i)) H) := by
  intro pins s σ H xs us Q I r h
  obtain ⟨i, j, rfl, q⟩ := h
  obtain ⟨u, w', rfl, ⟨t, rfl⟩, ⟨t', rfl⟩⟩ := vals2 r
  refine min_two_ints (I.ok.hd hc) fun h' tk k => ⟨_, H, I.kept k, ?_, q⟩
  by_cases hj : j < i
  · rw [if_pos hj, if_pos hj]; exact ⟨_, rfl⟩
  · rw [if_neg hj, if_neg hj]; exact ⟨_, rfl⟩
noncomputable def LenV (K : PySem.W.Frag) (x : V) (H : Hp) (n : Nat) : Prop :=
  match x with
  | .str y => y.length ≤ sizeLine ∧ n = y.length
  | .byt y => y.size ≤ sizeLine ∧ n = y.size
  | .ref p => (∃ xs, SqL K H p xs ∧ n = xs.length) ∨ ∃ xs, SqT K H p xs ∧ n = xs.length
  | _ => False
theorem call_len : CallR X (.builtin "len") (fun xs H Q => ∃ x n, xs = [x] ∧ LenV X.K x H n ∧ Q (.int n) H) := by
  intro pins s σ H xs us Q I r h
  obtain ⟨x, n, rfl, e, q⟩ := h
  obtain ⟨u, rfl, rx⟩ := vals1 r
  have hl := line63
  have hs : sizeLine = 16777216 := sizeLine_eq
  cases x with
  | str y =>
    obtain ⟨t, rfl⟩ := rx
    obtain ⟨hy, e'⟩ : y.length ≤ sizeLine ∧ n = y.length := e
    subst e'
    exact len_str (by omega) ⟨.int _, H, I.tok _, ⟨_, rfl⟩, q⟩
  | byt y =>
    obtain ⟨t, rfl⟩ := rx
    obtain ⟨hy, e'⟩ : y.size ≤ sizeLine ∧ n = y.size := e
    subst e'
    exact PySem.W.len_bytes (by omega) ⟨.int _, H, I.tok _, ⟨_, rfl⟩, q⟩
  | ref p =>
    cases rx
    have e' : (∃ xs, SqL X.K H p xs ∧ n = xs.length) ∨ ∃ xs, SqT X.K H p xs ∧ n = xs.length := e
    rcases e' with ⟨xs, hx, e'⟩ | ⟨xs, hx, e'⟩
    · subst e'
      obtain ⟨its, r', pl, hz⟩ := I.list hx
      have hlen := r'.length
      exact Calls.call_len_list pl.isList (by simp only [List.size_toArray]; omega) ⟨.int xs.length, H, I.tok _, ⟨_, by simp only [List.size_toArray]; rw [hlen]⟩, q⟩
    · subst e'
      obtain ⟨its, r', pl, hz⟩ := I.tuple hx
      have hlen := r'.length
      exact len_tuple pl (by simp only [List.size_toArray]; omega) ⟨.int xs.length, H, I.tok _, ⟨_, by simp only [List.size_toArray]; rw [hlen]⟩, q⟩
  | _ => exact (show False from e).elim
end
end L2
namespace L2
open PySem PySem.Spec PyProof.Rows
structure ObjM (h : Heap) (x dx C : Addr) (mA : Str → Option Value) : Prop where
  obj : h.get? x = some (PySem.W.instObj C dx)
  ns : h.Ns1 dx mA
  ne : dx ≠ x
section
variable {prog : Program} {w : World} {A : Around} {E : Value → Shared → Prop} {s : Shared} {K : PySem.W.Frag} {x dx C f : Addr} {mA : Str → Option Value} {name : Str} {v : Value}
end
section
variable {P : Program} {w : World} {H H' : Hp} {h h' : Heap} {a C dx : Addr} {fs fs' : List (Str × V)}
end
structure Cls (K : PySem.W.Frag) (C : Addr) : Prop where
  pg : PySem.W.plainGet K C Str.empty = true
  hd : PySem.W.hasDictIn K C = true
  po : PySem.W.plainOver K C = true
  sa : PySem.W.findIn K (.ref C) "__setattr__" = some (some (.builtin "object.__setattr__"))
theorem Cls.get {K : PySem.W.Frag} {C : Addr} (c : Cls K C) (f : Str) : PySem.W.plainGet K C f = true := c.pg
structure Con (K : PySem.W.Frag) (C : Addr) (f : Str) (v : V) (u : Value) : Prop where
  at_ : PySem.W.findIn K (.ref C) f = some (some u)
  rel : RelV v u
  get : PySem.W.specialIn K u "__get__" = some none
  cp : PySem.W.copiedNames.contains f = false
structure Meth (K : PySem.W.Frag) (C : Addr) (m : Str) (f : Addr) : Prop where
  at_ : PySem.W.findIn K (.ref C) m = some (some (.ref f))
  fn : PySem.W.isFn K (.ref f) = true
  kp : PySem.W.keepIn K (.ref f) = true
section
variable {X : Cx} {pins : List (Addr × Obj)} {σ : St} {H : Hp} {s : Shared} {a C dx : Addr} {fs : List (Str × V)} {f : Str} {v : V} {A : Around} {E : Value → Shared → Prop}
end
section
variable {X : Cx} {o e value : Expr} {f : Str} {pos pos' tpos : Pos} {ta tv : TE}
end
section
variable {X : Cx} {pins : List (Addr × Obj)} {σ : St} {H : Hp} {s : Shared} {A : Around} {E : Value → Shared → Prop} {Q : Value → Shared → Prop} {c : Value} {b : Bool}
inductive TyOf (K : PySem.W.Frag) (H : Hp) : V → Value → Prop where
  | non : TyOf K H .non (.type "NoneType")
  | bl (x : Bool) : TyOf K H (.bl x) (.type "bool")
  | int (i : Int) : TyOf K H (.int i) (.type "int")
  | str (x : Str) : TyOf K H (.str x) (.type "str")
  | flt (x : UInt64) : TyOf K H (.flt x) (.type "float")
  | lst {a : Addr} {xs : List V} (e : H a = some (.lst xs)) : TyOf K H (.ref a) (.type "list")
  | frz {a : Addr} {o : Obj} {xs : List V} (e : H a = some (.frz o (.lst xs))) : TyOf K H (.ref a) (.type "list")
  | tup {a : Addr} {xs : List V} (e : H a = some (.tup xs)) : TyOf K H (.ref a) (.type "tuple")
  | dK {a : Addr} {kvs : List (Key × V)} (e : H a = some (.dK kvs)) : TyOf K H (.ref a) (.type "dict")
  | dT {a : Addr} {kvs : List (List Key × V)} (e : H a = some (.dT kvs)) : TyOf K H (.ref a) (.type "dict")
  | ins {a C dx : Addr} {fs : List (Str × V)} (e : H a = some (.ins C dx fs)) (cl : Cls K C) (ha : PySem.W.findIn K (.ref C) "__class__" = some (some (.builtin "object.__class__")))
      (hn : PySem.W.specialIn K (.builtin "object.__class__") "__get__" = some (some (.builtin "getset_descriptor.__get__"))) (htk : PySem.W.takesIn K (.builtin "object.__class__") = some true)
      (hm : PySem.W.mroIn K C (.type "object") = some true) : TyOf K H (.ref a) (.ref C)
end
end L2
namespace L2
open PySem PySem.Spec PyProof.Rows
structure Room (k : Nat) (A : Around) : Prop where
  hd : A.handled = none
  dp : A.depth + 3 * k + 5 < recursionLimit
  un : A.units + 16 * k + 200 < cLine
  gd : A.guards = some []
theorem Room.mono {j k : Nat} {A : Around} (r : Room k A) (h : j ≤ k) : Room j A := ⟨r.hd, by have := r.dp; omega, by have := r.un; omega, r.gd⟩
theorem Room.deeper {k : Nat} {A : Around} (r : Room (k + 1) A) (env : Env) : Room k (A.deeper env) :=
  ⟨r.hd, by have := r.dp; show A.depth + 1 + 3 * k + 5 < _; omega, by have := r.un; show A.units + 3 + 16 * k + 200 < _; omega, r.gd⟩
theorem Room.in1 {k : Nat} {A : Around} (r : Room (k + 1) A) : Room k A.in1 :=
  ⟨r.hd, by have := r.dp; show A.depth + 3 * k + 5 < _; omega, by have := r.un; show A.units + 1 + 16 * k + 200 < _; omega, r.gd⟩
theorem Room.depth {k : Nat} {A : Around} (r : Room k A) : A.depth < recursionLimit := by have := r.dp; omega
theorem Room.units {k : Nat} {A : Around} (r : Room k A) : A.units + 64 < cLine := by have := r.un; omega
noncomputable def tNil : TA := fun _ H Q => Q [] H
noncomputable def tCons (ta : TE) (tr : TA) : TA := fun σ H Q => ta σ H fun x H1 => tr σ H1 fun xs H2 => Q (x :: xs) H2
section
variable {X : Cx} {e : Expr} {es : List Expr} {te : TE} {t : TA} {pos : Pos}
theorem pa_nil : PA X [] tNil := fun _ _ _ _ H Q I h => Calls.spliced_nil ⟨[], H, I, .nil, h⟩
theorem pa_cons (ha : PE X e te) (hr : PA X es t) (hs : starEach (e :: es) X.env = (false, eval e X.env) :: starEach es X.env := by rfl) : PA X (e :: es) (tCons te t) := by
  intro pos pins s σ H Q I h
  rw [hs]
  show wpAny _ _ (spliced ((false, eval e X.env) :: backTo pos (starEach es X.env))) _ _ s
  refine Calls.spliced_cons (thn (ha pins s σ H _ I h) fun u s1 ⟨x, H1, I1, r1, q1⟩ => ?_)
  exact thn (hr pos pins s1 σ H1 _ I1 q1) fun us s2 ⟨xs, H2, I2, r2, q2⟩ => ⟨x :: xs, H2, I2, .cons r1 r2, q2⟩
noncomputable def tTup (t : TA) : TE := fun σ H Q => t σ H fun xs H1 => xs.length ≤ sizeLine ∧ ∀ p, H1 p = none → Q (.ref p) (upd H1 p (.tup xs))
noncomputable def tLst (t : TA) : TE := fun σ H Q => t σ H fun xs H1 => xs.length ≤ sizeLine ∧ ∀ p, H1 p = none → Q (.ref p) (upd H1 p (.lst xs))
theorem pe_tup {x1} (h : PA X es t) : PE X (.Tuple es x1 pos) (tTup t) := by
  intro pins s σ H Q I hq
  refine wpAny_Tuple_spliced (thn (h pos pins s σ H _ I hq) fun us s1 ⟨xs, H1, I1, r, z, q⟩ => ⟨by rw [← r.length]; exact z, ?_⟩)
  have hf : H1 s1.heap.objs.size = none := I1.hok.fresh (Nat.le_refl _)
  refine ⟨.ref s1.heap.objs.size, upd H1 s1.heap.objs.size (.tup xs), I1.laid (t' := s1.toks) (fun b u e => Heap.get?_push_of_some _ e) (Nat.le_refl _) ?_, rfl, q _ hf⟩
  exact ⟨z, us, r, ⟨_, Heap.get?_push_size _ rfl, rfl, _, rfl⟩⟩
theorem pe_lst (h : PA X es t) : PE X (.List es pos) (tLst t) := by
  intro pins s σ H Q I hq
  refine wpAny_List_spliced (thn (h pos pins s σ H _ I hq) fun us s1 ⟨xs, H1, I1, r, z, q⟩ => ⟨by rw [← r.length]; exact z, ?_⟩)
  have hf : H1 s1.heap.objs.size = none := I1.hok.fresh (Nat.le_refl _)
  refine ⟨.ref s1.heap.objs.size, upd H1 s1.heap.objs.size (.lst xs), I1.laid (t' := s1.toks) (fun b u e => Heap.get?_push_of_some _ e) (Nat.le_refl _) ?_, rfl, q _ hf⟩
  exact ⟨z, us, 0, r, Heap.get?_push_size _ rfl⟩
end
noncomputable abbrev Sp := List V → Hp → VK → XK → Prop
noncomputable abbrev CXT := List Env → Hp → Shared → XK → Value → Shared → Prop
structure Env0 (P : Program) (w : World) (K : PySem.W.Frag) (mg : Str → Option Value) (base : Heap) (A : Around) (outer : List Env) (s : Shared) (H : Hp) : Prop where
  frames : A.frames = some outer
  mod : Mod K mg base
  bs : ∀ b o, base.get? b = some o → s.heap.get? b = some o ∧ H b = none
  bsz : base.objs.size ≤ s.heap.objs.size
  funs : s.heap.FunFrames base outer
  frf : ∀ b ∈ frs outer, H b = none
  hok : HOk P w H s.heap
  bare : AllBare s.gens
noncomputable def CE (outer : List Env) (P : Program) (w : World) (H : Hp) (s : Shared) (Q : VK) (u : Value) (s' : Shared) : Prop :=
  ∃ v H', s'.os = s.os ∧ AllBare s'.gens ∧ Un (frs outer) [] H H' s.heap s'.heap ∧ HOk P w H' s'.heap ∧ RelV v u ∧ Q v H'
noncomputable def CR (CX : CXT) (outer : List Env) (P : Program) (w : World) (H : Hp) (s : Shared) (Q : VK) (E : XK) (r : Result) (s' : Shared) : Prop :=
  match r with
  | .ok (.ret u) => CE outer P w H s Q u s'
  | .ok _ => False
  | .error e => CX outer H s E e s'
structure FnOk (P : Program) (w : World) (K : PySem.W.Frag) (mg : Str → Option Value) (base : Heap) (CX : CXT) (k : Nat) (f : Addr) (fd : FuncData) (ps : List Str) (sp : Sp) : Prop where
  len : ∀ vs H Q E, sp vs H Q E → vs.length = ps.length
  run : ∀ (A : Around) (outer : List Env) (s : Shared) (H : Hp) (args : Args) (us : List Value) (vs : List V) (Q : VK) (E : XK), Room k A → Env0 P w K mg base A outer s H → BindsTo s fd args (ps.zip us) → Vals vs us → sp vs H Q E →
    codeAny (model P w) A (.call (.ref f) args) (CR CX outer P w H s Q E) s
theorem FnOk.mono {P : Program} {w : World} {K : PySem.W.Frag} {mg : Str → Option Value} {base : Heap} {CX : CXT} {j k : Nat} {f : Addr} {fd : FuncData} {ps : List Str} {sp : Sp} (F : FnOk P w K mg base CX j f fd ps sp) (h : j ≤ k) :
    FnOk P w K mg base CX k f fd ps sp := ⟨F.len, fun A outer s H args us vs Q E hr => F.run A outer s H args us vs Q E (hr.mono h)⟩
theorem FnOk.imp {P : Program} {w : World} {K : PySem.W.Frag} {mg : Str → Option Value} {base : Heap} {CX : CXT} {k : Nat} {f : Addr} {fd : FuncData} {ps : List Str} {sp sp' : Sp} (F : FnOk P w K mg base CX k f fd ps sp)
    (h : ∀ vs H Q E, sp' vs H Q E → sp vs H Q E) : FnOk P w K mg base CX k f fd ps sp' :=
  ⟨fun vs H Q E q => F.len vs H Q E (h _ _ _ _ q), fun A outer s H args us vs Q E hr he hb hv hs => F.run A outer s H args us vs Q E hr he hb hv (h _ _ _ _ hs)⟩
theorem Env0.in1 {P : Program} {w : World} {K : PySem.W.Frag} {mg : Str → Option Value} {base : Heap} {A : Around} {outer : List Env} {s : Shared} {H : Hp} (e : Env0 P w K mg base A outer s H) :
    Env0 P w K mg base A.in1 outer s H := ⟨e.frames, e.mod, e.bs, e.bsz, e.funs, e.frf, e.hok, e.bare⟩
section
variable {X : Cx} {pins : List (Addr × Obj)} {σ : St} {H : Hp} {s s' : Shared}
theorem Inv.env0 (I : Inv X pins σ H s) : Env0 X.prog X.w X.K X.mg X.base X.A X.stack s H :=
  ⟨I.ok.frames, I.ok.mod, I.bs, Nat.le_trans I.ok.bsz I.sz, I.stack, I.stkFree, I.hok, I.bare⟩
theorem Inv.after {Q : VK} {u : Value} (I : Inv X pins σ H s) (h : CE X.stack X.prog X.w H s Q u s') : EP X pins σ Q u s' := by
  obtain ⟨v, H', os, bare, un, hok, r, q⟩ := h
  obtain ⟨hh, g, d, t, os'⟩ := s'
  obtain rfl : os' = s.os := os
  exact ⟨v, H', I.call (h' := hh) (g' := g) (d' := d) (t' := t) (ch := []) un hok bare (fun b z => absurd z (by simp)), r, q⟩
end
noncomputable def tCall (sp : Sp) (dvs : List V) (E : XK) (t : TA) : TE := fun σ H Q => t σ H fun vs H1 => sp (vs ++ dvs) H1 Q E
noncomputable def Binds (K : PySem.W.Frag) (fd : FuncData) (ps : List Str) (ds : List Value) : Prop :=
  ∀ (s : Shared) (us : List Value), K.In s.heap → (us ++ ds).length = ps.length → BindsTo s fd ⟨us, []⟩ (ps.zip (us ++ ds))
theorem Binds.all {K : PySem.W.Frag} {fd : FuncData} {ps : List Str} (h : ∀ us : List Value, us.length = ps.length → bindArgs fd ⟨us, []⟩ = pure (ps.zip us)) : Binds K fd ps [] := fun s us _ hl => by
  rw [List.append_nil] at hl ⊢
  exact .of_eq (h us hl)
noncomputable def Passes (CX : CXT) (X : Cx) (E : XK) : Prop := ∀ (pins : List (Addr × Obj)) (σ : St) (H : Hp) (s : Shared) (e : Value) (s' : Shared), Inv X pins σ H s → CX X.stack H s E e s' → X.xe e s'
section
variable {X : Cx} {CX : CXT} {k : Nat} {f C : Addr} {fd : FuncData} {ps : List Str} {sp : Sp} {dvs : List V} {ds : List Value} {E : XK} {x m : Str} {p pos apos : Pos} {e o : Expr} {es : List Expr} {ta : TE} {t : TA}
theorem run_fn {pins : List (Addr × Obj)} {σ : St} {H : Hp} {s : Shared} {Q : VK} {us : List Value} {vs : List V} (F : FnOk X.prog X.w X.K X.mg X.base CX k f fd ps sp) (hr : Room k X.A) (hb : Binds X.K fd ps ds) (hd : Vals dvs ds) (hx : Passes CX X E)
    (I : Inv X pins σ H s) (r : Vals vs us) (h : sp (vs ++ dvs) H Q E) : wpAny (model X.prog X.w) X.A (call (.ref f) us) (EP X pins σ Q) X.xe s := by
  have r2 : Vals (vs ++ dvs) (us ++ ds) := r.append hd
  have hl : (us ++ ds).length = ps.length := by rw [← r2.length]; exact F.len _ _ _ _ h
  refine wpAny_call (codeAny_mono (F.run X.A X.stack s H ⟨us, []⟩ (us ++ ds) (vs ++ dvs) Q E hr I.env0 (hb s us I.kIn hl) r2 h) fun r s' hq => ?_)
  cases r with
  | error e => exact hx pins σ H s e s' I hq
  | ok fl =>
    cases fl with
    | ret u => exact I.after hq
    | next => exact False.elim hq
    | brk => exact False.elim hq
    | cont => exact False.elim hq
theorem pe_call (F : FnOk X.prog X.w X.K X.mg X.base CX k f fd ps sp) (hr : Room k X.A) (hg : Gl X x) (hm : X.mg x = some (.ref f)) (hk : PySem.W.keepIn X.K (.ref f) = true) (hb : Binds X.K fd ps ds) (hd : Vals dvs ds) (hx : Passes CX X E)
    (ha : PA X (e :: es) t) (hdb : (x == ("__debug__" : Str)) = false := by decide) (he : starEach (e :: es) X.env = (false, eval e X.env) :: starEach es X.env := by rfl) (hpl : (backTo pos (starEach es X.env)).any (·.1) = false := by rfl) :
    PE X (.Call (.Name x p) (e :: es) [] pos) (tCall sp dvs E t) := by
  intro pins s σ H Q I h
  refine wpAny_Call_Name_kw (ld_glob I hg hm ?_ hdb)
  refine PySem.W.callWith_K (h₀ := X.base) I.ok.mod.kin hk (thn (ha pos pins s σ H _ I h) fun us s1 ⟨vs, H1, I1, r, q⟩ => ⟨I1.kIn, ?_⟩) he hpl
  exact run_fn F hr hb hd hx I1 r q
structure Mk (K : PySem.W.Frag) (C f : Addr) : Prop where
  makes : PySem.W.makesIn K C = true
  init : PySem.W.findIn K (.ref C) "__init__" = some (some (.ref f))
  fn : PySem.W.isFn K (.ref f) = true
  kp : PySem.W.keepIn K (.ref C) = true
end
section
variable {X : Cx} {CX : CXT} {k : Nat} {f C : Addr} {fd : FuncData} {ps ks : List Str} {sp : Sp} {E : XK} {x m : Str} {p pos apos kpos : Pos} {e o : Expr} {es : List Expr} {kws : List Keyword} {te ta : TE} {t tk : TA} {nm : Option Str}
structure KBinds (K : PySem.W.Frag) (fd : FuncData) (ps ks : List Str) (g : List Value → List Value → List Value) (gV : List V → List V → List V) : Prop where
  to : ∀ (s : Shared) (us ws : List Value), K.In s.heap → (g us ws).length = ps.length → BindsTo s fd ⟨us, ks.zip ws⟩ (ps.zip (g us ws))
  rel : ∀ {vs : List V} {us : List Value} {zs : List V} {ws : List Value}, Vals vs us → Vals zs ws → Vals (gV vs zs) (g us ws)
variable {g : List Value → List Value → List Value} {gV : List V → List V → List V}
end
structure FnScope (N P : List Str) (sc : Scope) : Prop where
  kind : sc.kind = .function
  co : sc.isCoroutine = false
  gen : sc.isGenerator = false
  nd : N.Nodup
  pre : N.take P.length = P
  par : ∀ x ∈ P, sc.names.lookup x = some .local ∨ sc.names.lookup x = some .cell
  nofree : ∀ y ∈ sc.names, y.2 ≠ .free
theorem bindL_out {kindOf : Str → Option NameKind} {x : Str} : ∀ {binds : List (Str × Value)} {m : Str → Option Value}, (∀ v, (x, v) ∉ binds) → bindL kindOf binds m x = m x
  | [], _, _ => rfl
  | (n, v) :: r, m, h => by
    unfold bindL
    rw [bindL_out fun w hw => h w (List.mem_cons_of_mem _ hw)]
    split
    · have : x ≠ n := by rintro rfl; exact h v List.mem_cons_self
      simp [this]
    · rfl
theorem bindC_out {kindOf : Str → Option NameKind} {x : Str} : ∀ {binds : List (Str × Value)} {m : Str → Option Value}, (∀ v, (x, v) ∉ binds) → bindC kindOf binds m x = m x
  | [], _, _ => rfl
  | (n, v) :: r, m, h => by
    unfold bindC
    rw [bindC_out fun w hw => h w (List.mem_cons_of_mem _ hw)]
    split
    · rfl
    · have : x ≠ n := by rintro rfl; exact h v List.mem_cons_self
      simp [this]
theorem bindL_get {kindOf : Str → Option NameKind} {x : Str} {v : Value} : ∀ {P : List Str} {vs : List Value} {i : Nat} {m : Str → Option Value}, P.Nodup → P[i]? = some x → vs[i]? = some v → kindOf x = some .local →
    bindL kindOf (P.zip vs) m x = some v
  | [], _, _, _, _, h, _, _ => by simp at h
  | _ :: _, [], _, _, _, _, h, _ => by simp at h
  | p :: P, w :: vs, 0, m, nd, h1, h2, hk => by
    simp at h1 h2; subst h1; subst h2
    show bindL kindOf ((p, w) :: P.zip vs) m p = _
    unfold bindL
    rw [bindL_out fun v hv => (List.nodup_cons.mp nd).1 (List.of_mem_zip hv).1, if_pos hk]
    simp
  | p :: P, w :: vs, i + 1, m, nd, h1, h2, hk => by
    show bindL kindOf ((p, w) :: P.zip vs) m x = _
    unfold bindL
    exact bindL_get (i := i) (List.nodup_cons.mp nd).2 (by simpa using h1) (by simpa using h2) hk
theorem bindC_get {kindOf : Str → Option NameKind} {x : Str} {v : Value} : ∀ {P : List Str} {vs : List Value} {i : Nat} {m : Str → Option Value}, P.Nodup → P[i]? = some x → vs[i]? = some v → kindOf x ≠ some .local →
    bindC kindOf (P.zip vs) m x = some v
  | [], _, _, _, _, h, _, _ => by simp at h
  | _ :: _, [], _, _, _, _, h, _ => by simp at h
  | p :: P, w :: vs, 0, m, nd, h1, h2, hk => by
    simp at h1 h2; subst h1; subst h2
    show bindC kindOf ((p, w) :: P.zip vs) m p = _
    unfold bindC
    rw [bindC_out fun v hv => (List.nodup_cons.mp nd).1 (List.of_mem_zip hv).1, if_neg hk]
    simp
  | p :: P, w :: vs, i + 1, m, nd, h1, h2, hk => by
    show bindC kindOf ((p, w) :: P.zip vs) m x = _
    unfold bindC
    exact bindC_get (i := i) (List.nodup_cons.mp nd).2 (by simpa using h1) (by simpa using h2) hk
noncomputable def start (N : List Str) (vs : List V) : St := vs.map some ++ List.replicate (N.length - vs.length) none
noncomputable def cxOf (CX : CXT) (P : Program) (w : World) (K : PySem.W.Frag) (mg : Str → Option Value) (base : Heap) (N : List Str) (qual : Str) (scope : Scope) (f : Addr) (cd : Value) (A : Around) (outer : List Env) (s : Shared) (H : Hp) (E : XK) : Cx where
  prog := P
  w := w
  K := K
  mg := mg
  base := base
  A := A.deeper (envOfC qual scope s.heap.objs.size f cd)
  N := N
  s₀ := s
  H₀ := H
  env := envOfC qual scope s.heap.objs.size f cd
  outer := outer
  stack := envOfC qual scope s.heap.objs.size f cd :: outer
  ex := []
  calm := true
  fn := fun _ => true
  pn := []
  xe := fun e s' => wpAny (model P w) (A.deeper (envOfC qual scope s.heap.objs.size f cd)) (leaving (envOfC qual scope s.heap.objs.size f cd) e) (fun _ s'' => CX outer H s E e s'') (fun e' s'' => CX outer H s E e' s'') s'
theorem cell_has {sc : Scope} {n : Nat} {x : Str} (h : sc.names.lookup x = some .cell) : ∃ c, (cellsFrom n sc.names []).lookup x = some c := by
  have q := PySem.W.cellsFrom_some sc.names n [] (.inl h)
  exact Option.isSome_iff_exists.mp q
theorem inv_start {CX : CXT} {P : Program} {w : World} {K : PySem.W.Frag} {mg : Str → Option Value} {base : Heap} {N ps : List Str} {qual : Str} {scope : Scope} {f : Addr} {cd : Value} {A : Around} {outer : List Env} {s s1 : Shared} {H : Hp} {E : XK} {us : List Value} {vs : List V}
    (S : FnScope N ps scope) (hd : A.handled = none) (e0 : Env0 P w K mg base A outer s H) (hl : vs.length = ps.length) (r : Vals vs us)
    (x : InCallC s s.heap.objs.size (bindL (envOfC qual scope s.heap.objs.size f cd).kindOf (ps.zip us) fun _ => none) (cellsFrom (s.heap.objs.size + 1) scope.names []) (bindC (envOfC qual scope s.heap.objs.size f cd).kindOf (ps.zip us) fun _ => none) s1) :
    Inv (cxOf CX P w K mg base N qual scope f cd A outer s H E) [] (start N vs) H s1 := by
  have hpl : ps.length ≤ N.length := by have := congrArg List.length S.pre; rw [List.length_take] at this; omega
  obtain ⟨h1, tk, rfl, hk⟩ := x.done
  have noA : ∀ b : Addr, b ∉ (cxOf CX P w K mg base N qual scope f cd A outer s H E).ex := fun b z => absurd (show b ∈ ([] : List Addr) from z) (by simp)
  refine ⟨⟨e0.mod, S.kind, rfl, rfl, Nat.le_refl _, fun y z c h1 h2 => ?_, fun y hy => ?_, fun y c _ h => ?_, fun _ => hd, Around.frames_deeper e0.frames, .inr ⟨rfl, rfl⟩, fun b z => absurd z (noA b), e0.bs, e0.bsz, fun b _ _ => noA b, fun b z => absurd z (noA b), e0.funs, e0.frf⟩,
    rfl, e0.bare, Un.kept hk, ⟨_, x.toInCall.ns, fun i y v h1 h2 h3 => ?_⟩, fun y c h => ⟨_, x.cell y c h⟩, e0.hok.fresh (Nat.le_refl _), fun y c h => ?_, fun p hp => absurd (show p ∈ ([] : List (Addr × Obj)) from hp) (by simp), e0.hok.kept hk, ?_⟩
  · exact name_of_addr x.apart (PySem.mem_of_lookup h1) (PySem.mem_of_lookup h2)
  · have hy : scope.names.lookup y = some .cell ∨ scope.names.lookup y = some .free := hy
    rcases hy with hy | hy
    · exact cell_has hy
    · exact absurd rfl (S.nofree _ (PySem.mem_of_lookup hy))
  · exact Nat.le_of_lt (x.above y c (PySem.mem_of_lookup h))
  · have hi : i < vs.length := by
      unfold start at h2
      by_cases hi : i < vs.length
      · exact hi
      · rw [List.getElem?_append_right (by simpa using hi)] at h2
        rw [List.getElem?_replicate] at h2
        split at h2 <;> cases h2
    have ha : vs[i]? = some v := by
      unfold start at h2
      rw [List.getElem?_append_left (by simpa using hi), List.getElem?_map] at h2
      cases e : vs[i]? with
      | none => rw [e] at h2; cases h2
      | some a => rw [e] at h2; cases h2; rfl
    obtain ⟨u, hu, rv⟩ := r.get ha
    have hp : ps[i]? = some y := by
      rw [← S.pre, List.getElem?_take_of_lt (by omega)]; exact h1
    have ndP : ps.Nodup := by rw [← S.pre]; exact S.nd.sublist (List.take_sublist _ _)
    refine ⟨u, rv, ?_⟩
    rcases S.par y (List.mem_of_getElem? hp) with k | k
    · exact .inl ⟨k, bindL_get ndP hp hu k⟩
    · obtain ⟨c, e⟩ := cell_has (n := s.heap.objs.size + 1) k
      refine .inr ⟨.inl k, c, e, ?_⟩
      have q := x.cell y c e
      rw [bindC_get ndP hp hu (by show scope.names.lookup y ≠ _; rw [k]; decide)] at q
      exact q
  · exact e0.hok.fresh (Nat.le_of_lt (x.above y c (PySem.mem_of_lookup h)))
  · unfold start
    show _ = N.length
    rw [List.length_append, List.length_map, List.length_replicate]
    omega
theorem fn_of {CX : CXT} {P : Program} {w : World} {K : PySem.W.Frag} {mg : Str → Option Value} {base : Heap} {k : Nat} {f : Addr} {name qual : Str} {params : Arguments} {body : List Stmt} {scope : Scope} {dV kV doc pm cdv ct oc : Value} {an od : Option Addr}
    {osl : Array (Option Value)} {N ps : List Str} {sp : Sp} (lk : K.lookup f = some ⟨oc, od, .func (PySem.W.fnOf name qual params body scope dV kV doc pm an cdv ct), osl⟩) (hcd : PySem.W.codeIn K cdv qual = true) (S : FnScope N ps scope)
    (len : ∀ vs H Q E, sp vs H Q E → vs.length = ps.length)
    (hbody : ∀ (A : Around) (outer : List Env) (s : Shared) (H : Hp) (vs : List V) (Q : VK) (E : XK), Room k (A.deeper (envOfC qual scope s.heap.objs.size f cdv)) → sp vs H Q E →
      ∃ t, PSs (cxOf CX P w K mg base N qual scope f cdv A outer s H E) body t ∧ t { nx := fun _ H' => Q .non H', rt := Q } (start N vs) H) :
    FnOk P w K mg base CX (k + 1) f (PySem.W.fnOf name qual params body scope dV kV doc pm an cdv ct) ps sp := by
  refine ⟨len, fun A outer s H args us vs Q E hr e0 hb r hsp => ?_⟩
  have hl := len _ _ _ _ hsp
  have KX : K.In s.heap := e0.mod.kin.keeps fun b o e => (e0.bs b o e).1
  have lim : s.heap.NoLimit := e0.mod.nolimit.keeps fun b o e => (e0.bs b o e).1
  have hkind : ∀ y ∈ ps.zip us, scope.names.lookup y.1 = some .local ∨ (scope.names.lookup y.1 = some .cell ∧ ((cellsFrom (s.heap.objs.size + 1) scope.names []).lookup y.1).isSome = true) := fun ⟨n, v⟩ hy => by
    rcases S.par n (List.of_mem_zip hy).1 with q | q
    · exact .inl q
    · exact .inr ⟨q, PySem.W.cellsFrom_some _ _ _ (.inl q)⟩
  refine codeAny_call_function hr.depth (KX _ _ lk) rfl S.co S.gen rfl (PySem.W.codeRec_of KX hcd) (hb _ _ _ _ ?_)
  refine wpAny_newFunctionEnv_cells S.kind hkind fun env he s1 x => ?_
  subst he
  refine ⟨lim.keeps x.toInCall.keep, codeAny_func ?_⟩
  obtain ⟨t, ht, hq⟩ := hbody A outer s H vs Q E (hr.deeper _) hsp
  have I : Inv (cxOf CX P w K mg base N qual scope f cdv A outer s H E) [] (start N vs) H s1 := inv_start S hr.hd e0 hl r x
  refine wpAny_mono (ht [] s1 (start N vs) H _ I hq) (fun fl s' hs => ?_) fun e s' hs => hs
  have fin : ∀ {σ' : St} {H' : Hp} {v : V} {u : Value}, Inv (cxOf CX P w K mg base N qual scope f cdv A outer s H E) [] σ' H' s' → RelV v u → Q v H' → CE outer P w H s Q u s' :=
    fun {σ' H' v u} J rv q => ⟨v, H', J.os, J.bare, J.base, J.hok, rv, q⟩
  cases fl with
  | ret u =>
    obtain ⟨v, σ', H', J, rv, q⟩ := hs
    exact fin J rv q
  | next =>
    obtain ⟨σ', H', J, q⟩ := hs
    exact fin (v := V.non) (u := Value.none) J rfl q
  | brk =>
    obtain ⟨_, _, _, q⟩ := hs
    exact False.elim q
  | cont =>
    obtain ⟨_, _, _, q⟩ := hs
    exact False.elim q
end L2
namespace L2
open PySem PySem.Spec PyProof.Rows
section
variable {X : Cx} {x : Str} {p pos : Pos} {e : Expr} {es : List Expr} {t : TA} {id T : String} {r : List V → Hp → VK → Prop}
noncomputable def tCB (r : List V → Hp → VK → Prop) (t : TA) : TE := fun σ H Q => t σ H fun vs H1 => r vs H1 Q
theorem pe_callB (hc : CallR X (.builtin id) r) (hg : Gl X x) (hm : X.mg x = none) (hv : bootBuiltins x = some (.builtin id)) (ha : PA X (e :: es) t) (hn : x ≠ "__name__" := by decide) (hdb : (x == ("__debug__" : Str)) = false := by decide)
    (he : starEach (e :: es) X.env = (false, eval e X.env) :: starEach es X.env := by rfl) (hpl : (backTo pos (starEach es X.env)).any (·.1) = false := by rfl) : PE X (.Call (.Name x p) (e :: es) [] pos) (tCB r t) := by
  intro pins s σ H Q I h
  refine wpAny_Call_Name_kw (ld_blt I hg hm hv ?_ hn hdb)
  exact PyProof.Rows.callWith_builtin1 (thn (ha pos pins s σ H _ I h) fun us s1 ⟨vs, H1, I1, r1, q1⟩ => hc pins s1 σ H1 vs us Q I1 r1 q1) he hpl
theorem pe_callTy (hc : CallR X (.type T) r) (hg : Gl X x) (hm : X.mg x = none) (hv : bootBuiltins x = some (.type T)) (ha : PA X (e :: es) t) (hn : x ≠ "__name__" := by decide) (hdb : (x == ("__debug__" : Str)) = false := by decide)
    (he : starEach (e :: es) X.env = (false, eval e X.env) :: starEach es X.env := by rfl) (hpl : (backTo pos (starEach es X.env)).any (·.1) = false := by rfl) : PE X (.Call (.Name x p) (e :: es) [] pos) (tCB r t) := by
  intro pins s σ H Q I h
  refine wpAny_Call_Name_kw (ld_blt I hg hm hv ?_ hn hdb)
  exact PyProof.Rows.callWith_type1 (thn (ha pos pins s σ H _ I h) fun us s1 ⟨vs, H1, I1, r1, q1⟩ => hc pins s1 σ H1 vs us Q I1 r1 q1) he hpl
end
end L2
namespace HT
open PySem PyProof.Rows
section
open PySem.SeqAt
open PySem.AutoSeq1 (wpAny_loadPart')
open PySem.MeetsSeq PySem.MeetsSeq2 PySem.MeetsSeq3
end
section
variable {prog : Program} {w : World} {A : Around} {E : Value → Shared → Prop} {s : Shared}
noncomputable def sIx (n d : Nat) : Option Int → Nat
  | none => d
  | some v => if v < 0 then (v + (n : Int)).toNat else min v.toNat n
theorem sIx_nat (n d k : Nat) : sIx n d (some (k : Int)) = min k n := by
  show (if (k : Int) < 0 then ((k : Int) + (n : Int)).toNat else min (k : Int).toNat n) = min k n
  rw [if_neg (by omega), Int.toNat_natCast]
end
end HT
namespace L2
open PySem PySem.Spec PyProof.Rows
noncomputable abbrev TO := St → Hp → (Option Int → Hp → Prop) → Prop
noncomputable def PO (X : Cx) (e : Option Expr) (t : TO) : Prop :=
  ∀ (pins : List (Addr × Obj)) (s : Shared) (σ : St) (H : Hp) (Q : Option Int → Hp → Prop), Inv X pins σ H s → t σ H Q →
    wpAny (model X.prog X.w) X.A (evalPart e X.env) (fun u s' => ∃ o H', Inv X pins σ H' s' ∧ IsPart u o ∧ Q o H') X.xe s
noncomputable def tPart (t : TE) : TO := fun σ H Q => t σ H fun x H1 => ∃ i, x = .int i ∧ Q (some i) H1
section
variable {X : Cx} {e : Expr} {te : TE} {lo hi : Option Expr} {tl th : TO} {pos p2 : Pos}
theorem po_some (h : PE X e te) : PO X (some e) (tPart te) := by
  intro pins s σ H Q I hw
  rw [evalPart_some]
  refine thn (h pins s σ H _ I hw) fun u s1 ⟨x, H1, I1, r1, q1⟩ => ?_
  obtain ⟨i, rfl, q⟩ := q1
  obtain ⟨t, rfl⟩ := r1
  exact ⟨some i, H1, I1, .int i t, q⟩
noncomputable def SlR (X : Cx) (r : V → Option Int → Option Int → Hp → VK → Prop) : Prop :=
  ∀ (pins : List (Addr × Obj)) (s : Shared) (σ : St) (H : Hp) (x : V) (v vl vu : Value) (lo hi : Option Int) (sl : Addr) (Q : VK), Inv X pins σ H s → RelV x v → s.heap.IsSliceOf sl vl vu .none → IsPart vl lo → IsPart vu hi → r x lo hi H Q →
    ∃ T id, typeLookup (.type T) "__getitem__" = pure (some (.builtin id)) ∧ s.TypeIs v T ∧ wpAny (model X.prog X.w) X.A (getItem v (.ref sl)) (EP X pins σ Q) X.xe s
theorem SlR.or {r r' : V → Option Int → Option Int → Hp → VK → Prop} (h : SlR X r) (h' : SlR X r') : SlR X (fun x lo hi H Q => r x lo hi H Q ∨ r' x lo hi H Q) := by
  intro pins s σ H x v vl vu lo hi sl Q I rx hs pl pu q
  rcases q with q | q
  · exact h pins s σ H x v vl vu lo hi sl Q I rx hs pl pu q
  · exact h' pins s σ H x v vl vu lo hi sl Q I rx hs pl pu q
noncomputable def tSl (r : V → Option Int → Option Int → Hp → VK → Prop) (te : TE) (tl th : TO) : TE := fun σ H Q => te σ H fun x H1 => tl σ H1 fun l H2 => th σ H2 fun u H3 => r x l u H3 Q
theorem pe_slice {r : V → Option Int → Option Int → Hp → VK → Prop} (hr : SlR X r) (he : PE X e te) (hl : PO X lo tl) (hu : PO X hi th) : PE X (.Subscript e (.Slice lo hi none p2) pos) (tSl r te tl th) := by
  intro pins s σ H Q I h
  refine Subscript_ (thn (he pins s σ H _ I h) fun v s1 ⟨x, H1, I1, r1, q1⟩ => ?_)
  refine wpAny_Slice (thn (hl pins s1 σ H1 _ I1 q1) fun vl s2 ⟨l, H2, I2, pl, q2⟩ => thn (hu pins s2 σ H2 _ I2 q2) fun vu s3 ⟨u, H3, I3, pu, q3⟩ => ?_)
  rw [evalPart_none]
  refine wpAny_pure ?_
  have I4 : Inv X pins σ H3 { s3 with heap := s3.heap.push { cls := .type "slice", data := .fields #[vl, vu, .none] } } := I3.kept (t' := s3.toks) fun b ob q => Heap.get?_push_of_some _ q
  obtain ⟨T, id, hT, ht, hg⟩ := hr pins { s3 with heap := s3.heap.push { cls := .type "slice", data := .fields #[vl, vu, .none] } } σ H3 x v vl vu l u s3.heap.objs.size Q I4 r1 (Heap.IsSliceOf.new ..) pl pu q3
  show wpAny (model X.prog X.w) X.A (subscriptTail e (.Slice lo hi none p2) v (.ref s3.heap.objs.size)) (EP X pins σ Q) X.xe { s3 with heap := s3.heap.push { cls := .type "slice", data := .fields #[vl, vu, .none] } }
  exact tail_any (ops := [.ref s3.heap.objs.size, v]) ht hT hg (by with_unfolding_all rfl)
noncomputable def cutV (xs : List V) (lo hi : Option Int) : List V := (xs.drop (HT.sIx xs.length 0 lo)).take (HT.sIx xs.length xs.length hi - HT.sIx xs.length 0 lo)
theorem cutV_length (xs : List V) (lo hi : Option Int) : (cutV xs lo hi).length ≤ xs.length := by
  unfold cutV
  rw [List.length_take, List.length_drop]
  omega
end
end L2
namespace L2
open PySem PySem.Spec PyProof.Rows
noncomputable def ixN (n : Nat) (i : Int) : Option Nat := if 0 ≤ i then (if i < n then some i.toNat else none) else if -(n : Int) ≤ i then some (i + n).toNat else none
noncomputable def atI {α : Type} (xs : List α) (i : Int) : Option α := (ixN xs.length i).bind fun j => xs[j]?
theorem ixN_seq {n : Nat} {i : Int} {j : Nat} (h : ixN n i = some j) : seqIndex? i n = some j ∧ j < n ∧ -(n : Int) ≤ i ∧ i < n := by
  unfold ixN at h
  by_cases h0 : 0 ≤ i
  · rw [if_pos h0] at h
    by_cases h1 : i < n
    · rw [if_pos h1] at h
      have e : i.toNat = j := Option.some.inj h
      exact ⟨by rw [seqIndex_of h0 h1, e], by omega, by omega, h1⟩
    · rw [if_neg h1] at h; cases h
  · rw [if_neg h0] at h
    by_cases h1 : -(n : Int) ≤ i
    · rw [if_pos h1] at h
      have e : (i + n).toNat = j := Option.some.inj h
      exact ⟨by rw [seqIndex_neg (by omega) h1, e], by omega, h1, by omega⟩
    · rw [if_neg h1] at h; cases h
theorem atI_get {α : Type} {xs : List α} {i : Int} {v : α} (h : atI xs i = some v) : ∃ j, seqIndex? i xs.length = some j ∧ xs[j]? = some v ∧ j < xs.length ∧ -(xs.length : Int) ≤ i ∧ i < xs.length := by
  unfold atI at h
  cases e : ixN xs.length i with
  | none => rw [e] at h; cases h
  | some j =>
    rw [e] at h
    obtain ⟨h1, h2, h3, h4⟩ := ixN_seq e
    exact ⟨j, h1, h, h2, h3, h4⟩
noncomputable def PlainIx (b : Expr) : Prop := ∀ o i, subscripted b false o i = operate [o, i] (getItem o i)
noncomputable def IxR (X : Cx) (r : R2) : Prop :=
  ∀ (value slice : Expr) (pins : List (Addr × Obj)) (s : Shared) (σ : St) (H : Hp) (x y : V) (v u : Value) (Q : VK), Inv X pins σ H s → RelV x v → RelV y u → r x y H Q →
    subscripted slice false v u = operate [v, u] (getItem v u) → wpAny (model X.prog X.w) X.A (subscriptTail value slice v u) (EP X pins σ Q) X.xe s
noncomputable def MtR (X : Cx) (id : String) (r : V → List V → Hp → VK → Prop) : Prop :=
  ∀ (pins : List (Addr × Obj)) (s : Shared) (σ : St) (H : Hp) (x : V) (xs : List V) (v : Value) (us : List Value) (Q : VK), Inv X pins σ H s → RelV x v → Vals xs us → r x xs H Q →
    wpAny (model X.prog X.w) X.A (call (.builtin id) (v :: us)) (EP X pins σ Q) X.xe s
section
variable {X : Cx} {a b : Expr} {ta tb : TE} {pos : Pos}
theorem IxR.or {r r' : R2} (h : IxR X r) (h' : IxR X r') : IxR X (fun x y H Q => r x y H Q ∨ r' x y H Q) := by
  intro value slice pins s σ H x y v u Q I rx ry q hs
  rcases q with q | q
  · exact h value slice pins s σ H x y v u Q I rx ry q hs
  · exact h' value slice pins s σ H x y v u Q I rx ry q hs
theorem MtR.or {id : String} {r r' : V → List V → Hp → VK → Prop} (h : MtR X id r) (h' : MtR X id r') : MtR X id (fun x xs H Q => r x xs H Q ∨ r' x xs H Q) := by
  intro pins s σ H x xs v us Q I rx rs q
  rcases q with q | q
  · exact h pins s σ H x xs v us Q I rx rs q
  · exact h' pins s σ H x xs v us Q I rx rs q
theorem pe_ix {r : R2} (hr : IxR X r) (ha : PE X a ta) (hb : PE X b tb) (hs : PlainIx b) : PE X (.Subscript a b pos) (tOp r ta tb) := by
  intro pins s σ H Q I h
  exact Subscript_ (binT ha hb I h fun v u s2 x y H2 I2 rx ry q => hr a b pins s2 σ H2 x y v u Q I2 rx ry q (hs _ _))
noncomputable def rIxL (K : PySem.W.Frag) : R2 := fun x y H Q => ∃ p xs i v, x = .ref p ∧ y = .int i ∧ SqL K H p xs ∧ atI xs i = some v ∧ Q v H
noncomputable def rIxT (K : PySem.W.Frag) : R2 := fun x y H Q => ∃ p xs i v, x = .ref p ∧ y = .int i ∧ SqT K H p xs ∧ atI xs i = some v ∧ Q v H
noncomputable def rIxS : R2 := fun x y H Q => ∃ z i c, x = .str z ∧ y = .int i ∧ z.length ≤ sizeLine ∧ atI z.cps.toList i = some c ∧ Q (.str ⟨#[c]⟩) H
theorem ix_list : IxR X (rIxL X.K) := by
  intro value slice pins s σ H x y v u Q I rx ry h hs
  obtain ⟨p, xs, i, z, rfl, rfl, hq, he, q⟩ := h
  cases rx
  obtain ⟨t, rfl⟩ := ry
  obtain ⟨its, r, pl, hz⟩ := I.list hq
  obtain ⟨j, h1, h2, h3, h4, h5⟩ := atI_get he
  obtain ⟨w, ew, rw'⟩ := r.get h2
  have hl := r.length
  have hn := line63
  have fin : EP X pins σ Q w s := ⟨z, H, I, rw', q⟩
  by_cases h0 : 0 ≤ i
  · have hj : i.toNat = j := by
      rw [seqIndex_of h0 h5] at h1
      exact Option.some.inj h1
    exact item_listR pl.isList h0 (by omega) (by rw [hj]; simpa using ew) fin hs
  · have hj : (i + (its.toArray.size : Int)).toNat = j := by
      rw [seqIndex_neg (by omega) h4] at h1
      rw [List.size_toArray, ← hl]
      exact Option.some.inj h1
    exact subscriptTail_builtinR (x := w) pl.isList.typeIs slot_list_getitem.lookup
      (wpAny_getItem_list_neg (Q := fun r s' => r = w ∧ EP X pins σ Q r s') pl.isList (by omega) (by rw [List.size_toArray] <;> omega) (by omega) (by rw [hj]; simpa using ew) ⟨rfl, fin⟩) hs
theorem ix_tup : IxR X (rIxT X.K) := by
  intro value slice pins s σ H x y v u Q I rx ry h hs
  obtain ⟨p, xs, i, z, rfl, rfl, hq, he, q⟩ := h
  cases rx
  obtain ⟨t, rfl⟩ := ry
  obtain ⟨its, r, pl, hz⟩ := I.tuple hq
  obtain ⟨j, h1, h2, h3, h4, h5⟩ := atI_get he
  obtain ⟨w, ew, rw'⟩ := r.get h2
  have hl := r.length
  have hn := line63
  have fin : EP X pins σ Q w s := ⟨z, H, I, rw', q⟩
  exact subscriptTail_builtinR (x := w) pl.typeIs slot_tuple_getitem.lookup
    (getItem_tuple (j := j) (Q := fun r s' => r = w ∧ EP X pins σ Q r s') pl (by omega) (by omega) (by rw [List.size_toArray, ← hl]; exact h1) (by simpa using ew) ⟨rfl, fin⟩) hs
theorem ix_str : IxR X rIxS := by
  intro value slice pins s σ H x y v u Q I rx ry h hs
  obtain ⟨z, i, c, rfl, rfl, hz, he, q⟩ := h
  obtain ⟨t, rfl⟩ := rx
  obtain ⟨t', rfl⟩ := ry
  obtain ⟨j, h1, h2, h3, h4, h5⟩ := atI_get he
  have hl : z.cps.toList.length = z.length := by simp [Str.length]
  rw [hl] at h1 h4 h5
  have hn := line63
  exact tail_any (typeIs_str s z t) slot_str_getitem.lookup (getItem_str (c := c) (by
    have e1 : decide (i < -(2 ^ 63 : Int)) = false := decide_eq_false (by omega)
    have e2 : decide (i ≥ 2 ^ 63) = false := decide_eq_false (by omega)
    rw [e1, e2, Bool.or_false]) (by rw [h1]; simpa using h2) ⟨.str ⟨#[c]⟩, H, I.tok _, ⟨_, rfl⟩, q⟩) hs
noncomputable def rIx (K : PySem.W.Frag) : R2 := fun x y H Q => rIxL K x y H Q ∨ rIxT K x y H Q ∨ rIxS x y H Q
theorem ix_seq : IxR X (rIx X.K) := ix_list.or (ix_tup.or ix_str)
theorem Inv.lst {pins : List (Addr × Obj)} {σ : St} {H : Hp} {s : Shared} {p : Addr} {xs : List V} (I : Inv X pins σ H s) (h : H p = some (.lst xs)) :
    ∃ (its : List Value) (n : Nat), Vals xs its ∧ s.heap.get? p = some { cls := .type "list", data := .seq its.toArray n } ∧ xs.length ≤ sizeLine := by
  obtain ⟨z, its, n, r, e⟩ := I.hok p _ h
  exact ⟨its, n, r, e, z⟩
theorem slice_bounds (lo hi : Option Int) (n : Nat) : (sliceBounds lo hi none n).1 = ((HT.sIx n 0 lo : Nat) : Int) ∧ (sliceBounds lo hi none n).2.1 = ((HT.sIx n n hi : Nat) : Int) ∧ (sliceBounds lo hi none n).2.2 = 1 := by
  refine ⟨?_, ?_, rfl⟩
  · cases lo with
    | none => simp [sliceBounds, HT.sIx]
    | some i =>
      simp only [sliceBounds, HT.sIx, Option.getD_none, show (1 : Int) > 0 by decide, if_true]
      by_cases h : i < 0
      · simp only [h, if_true] <;> omega
      · simp only [h, if_false] <;> omega
  · cases hi with
    | none => simp [sliceBounds, HT.sIx]
    | some i =>
      simp only [sliceBounds, HT.sIx, Option.getD_none, show (1 : Int) > 0 by decide, if_true]
      by_cases h : i < 0
      · simp only [h, if_true] <;> omega
      · simp only [h, if_false] <;> omega
theorem slicePick_cut (its : List Value) (lo hi : Option Int) : slicePick its.toArray lo hi none = ((its.drop (HT.sIx its.length 0 lo)).take (HT.sIx its.length its.length hi - HT.sIx its.length 0 lo)).toArray := by
  obtain ⟨h1, h2, h3⟩ := slice_bounds lo hi its.toArray.size
  unfold slicePick
  rw [h1, h2, h3]
  simp only [sliceRange_one, pick_run, List.size_toArray] <;> rfl
noncomputable def rSlL (K : PySem.W.Frag) : V → Option Int → Option Int → Hp → VK → Prop := fun x lo hi H Q => ∃ a xs, x = .ref a ∧ SqL K H a xs ∧ ∀ p, H p = none → Q (.ref p) (upd H p (.lst (cutV xs lo hi)))
theorem sl_list : SlR X (rSlL X.K) := by
  intro pins s σ H x v vl vu lo hi sl Q I rx hs pl pu h
  obtain ⟨a, xs, rfl, hx, q⟩ := h
  cases rx
  obtain ⟨its, r, ht, hz⟩ := I.list hx
  have hlen := r.length
  refine ⟨"list", _, slot_list_getitem.lookup, ht.isList.typeIs, ?_⟩
  refine wpAny_getItem_list_slice ht.isList hs pl pu .none (by simp) ?_ (by rw [List.size_toArray] <;> omega)
  rw [slicePick_cut, ← hlen]
  refine ⟨.ref s.heap.objs.size, _, I.laid (t' := s.toks) (o := .lst (cutV xs lo hi)) (fun b ob q => Heap.get?_push_of_some _ q) (Nat.le_refl _) ?_, rfl, q _ (I.hok.fresh (Nat.le_refl _))⟩
  exact ⟨Nat.le_trans (cutV_length xs lo hi) hz, _, 0, (r.drop (HT.sIx xs.length 0 lo)).take (HT.sIx xs.length xs.length hi - HT.sIx xs.length 0 lo), Heap.get?_push_size _ rfl⟩
theorem CallR.or {f : Value} {r r' : List V → Hp → VK → Prop} (h : CallR X f r) (h' : CallR X f r') : CallR X f (fun xs H Q => r xs H Q ∨ r' xs H Q) := by
  intro pins s σ H xs us Q I rs q
  rcases q with q | q
  · exact h pins s σ H xs us Q I rs q
  · exact h' pins s σ H xs us Q I rs q
theorem call_list_of : CallR X (.type "list") (fun xs H Q => ∃ p ys, xs = [.ref p] ∧ (SqL X.K H p ys ∨ SqT X.K H p ys) ∧ ∀ l, H l = none → Q (.ref l) (upd H l (.lst ys))) := by
  intro pins s σ H xs us Q I r h
  obtain ⟨p, ys, rfl, hq, q⟩ := h
  obtain ⟨u, rfl, rx⟩ := vals1 r
  cases rx
  have fin : ∀ (its : List Value), Vals ys its → ys.length ≤ sizeLine → ∀ (h' : Heap) (c' : Nat), (∀ b o', s.heap.get? b = some o' → h'.get? b = some o') →
      h'.get? s.heap.objs.size = some { cls := .type "list", dict := none, data := .seq its.toArray c', slots := #[] } → EP X pins σ Q (.ref s.heap.objs.size) { s with heap := h' } := fun its r' hz h' c' kp e =>
    ⟨.ref s.heap.objs.size, _, I.laid (t' := s.toks) kp (Nat.le_refl _) (show ObjOk X.prog X.w _ h' _ (.lst ys) from ⟨hz, its, c', r', e⟩), rfl, q _ (I.hok.fresh (Nat.le_refl _))⟩
  rcases hq with hq | hq
  · obtain ⟨its, r', pl, hz⟩ := I.list hq
    have hlen := r'.length
    obtain ⟨o, ho, hc, n, hd⟩ := pl.isList
    exact call_list_seq p (.inl rfl) ho hc hd (fun h' c' kp e => fin its r' hz h' c' kp e) (by simp only [List.size_toArray] <;> omega)
  · obtain ⟨its, r', pl, hz⟩ := I.tuple hq
    have hlen := r'.length
    obtain ⟨o, ho, hc, n, hd⟩ := pl
    exact call_list_seq p (.inr rfl) ho hc hd (fun h' c' kp e => fin its r' hz h' c' kp e) (by simp only [List.size_toArray] <;> omega)
noncomputable def tyV (K : PySem.W.Frag) (T : String) (x : V) (H : Hp) : Prop := match x with
  | .str _ => T = "str"
  | .int _ => T = "int"
  | .ref p => (T = "list" ∧ ∃ xs, SqL K H p xs) ∨ (T = "tuple" ∧ ∃ o, K.lookup p = some o ∧ o.cls = .type "tuple" ∧ o.dict = none) ∨
      (T = "dict" ∧ ((∃ kvs, H p = some (.dK kvs)) ∨ ∃ kvs, H p = some (.dT kvs))) ∨ (T = "set" ∧ ∃ S n, H p = some (.set S n))
  | _ => False
theorem tyV_is {pins : List (Addr × Obj)} {σ : St} {H : Hp} {s : Shared} {T : String} {x : V} {v : Value} (I : Inv X pins σ H s) (r : RelV x v) (ty : tyV X.K T x H) :
    s.TypeIs v T ∧ ∀ a, v = .ref a → ∃ ob, s.heap.get? a = some ob ∧ ob.dict = none := by
  cases x with
  | str z =>
    obtain ⟨t, rfl⟩ := r
    cases (show T = "str" from ty)
    exact ⟨typeIs_str s z t, fun _ e => nomatch e⟩
  | int i =>
    obtain ⟨t, rfl⟩ := r
    cases (show T = "int" from ty)
    exact ⟨typeIs_int s i t, fun _ e => nomatch e⟩
  | ref p =>
    cases r
    rcases ty with ⟨rfl, xs, hq⟩ | ⟨rfl, o, hk, hc, hd⟩ | ⟨rfl, hk⟩ | ⟨rfl, S, n, hk⟩
    · obtain ⟨its, _, pl, _⟩ := I.list hq
      refine ⟨pl.isList.typeIs, fun a e => ?_⟩
      cases e
      obtain ⟨o, n, e, c, hd, _⟩ := pl
      exact ⟨o, e, hd⟩
    · refine ⟨⟨o, I.kIn p o hk, hc⟩, fun a e => ?_⟩
      cases e
      exact ⟨o, I.kIn _ o hk, hd⟩
    · have z : ∃ o, s.heap.get? p = some o ∧ o.ExactDict := by
        rcases hk with ⟨kvs, hk⟩ | ⟨kvs, hk⟩
        · obtain ⟨_, _, _, _, o, _, _, e, ex, _⟩ := I.hok p _ hk
          exact ⟨o, e, ex⟩
        · obtain ⟨_, _, _, _, o, _, _, e, ex, _⟩ := I.hok p _ hk
          exact ⟨o, e, ex⟩
      obtain ⟨o, e, ex⟩ := z
      refine ⟨⟨o, e, ex.1⟩, fun a e2 => ?_⟩
      cases e2
      exact ⟨o, e, ex.2.1⟩
    · obtain ⟨o, _, _, _, e, ex, _⟩ := I.hok p _ hk
      refine ⟨⟨o, e, ex.1⟩, fun a e2 => ?_⟩
      cases e2
      exact ⟨o, e, ex.2.1⟩
  | _ => exact False.elim ty
noncomputable def tBM (K : PySem.W.Frag) (T : String) (r : V → List V → Hp → VK → Prop) (to : TE) (t : TA) : TE := fun σ H Q => to σ H fun x H1 => tyV K T x H1 ∧ t σ H1 fun xs H2 => r x xs H2 Q
variable {o e : Expr} {es : List Expr} {to : TE} {t : TA} {name : Str} {apos cpos : Pos} {T id : String} {r : V → List V → Hp → VK → Prop}
theorem pe_bm (pa : PlainAttrs T) (slot : Slot T name id) (hty : typeOf (.builtin id) = pure (.type "method_descriptor")) (hm : MtR X id r) (ho : PE X o to) (ha : PA X (e :: es) t)
    (hbase : attributeBase o name X.env (eval o X.env) = eval o X.env := by rfl)
    (hfew : ((backTo cpos (starEach (e :: es) X.env)).all (fun x => !x.1) && (backToKw cpos (keywordEach [] X.env)).all (fun x => x.1.isSome)
      && decide ((e :: es).length + ([] : List Keyword).length + (if ([] : List Keyword).isEmpty then 0 else 1) < 30)) = true := by rfl)
    (hline : (apos.endLine == cpos.line) = true := by rfl) (hs : starEach (e :: es) X.env = (false, eval e X.env) :: starEach es X.env := by rfl) (hplain : (backTo cpos (starEach es X.env)).any (·.1) = false := by rfl) :
    PE X (.Call (.Attribute o name apos) (e :: es) [] cpos) (tBM X.K T r to t) := by
  intro pins s σ H Q I h
  refine wpAny_Call_method_late hbase hfew hline rfl (thn (ho pins s σ H _ I h) fun v s1 ⟨x, H1, I1, r1, ty, q1⟩ => ?_)
  obtain ⟨h1, h2⟩ := tyV_is I1 r1 ty
  refine ⟨T, id, pa, slot, hty, h1, h2, ?_⟩
  have hA := ha cpos pins s1 σ H1 _ I1 q1
  rw [hs] at hA ⊢
  refine Calls.callWith_builtin (by show (false || (backTo cpos (starEach es X.env)).any (·.1)) = false; rw [hplain] <;> rfl) (Calls.evalArgs_plain ?_)
  exact thn hA fun us s2 ⟨vs, H2, I2, r2, q2⟩ => hm pins s2 σ H2 x vs v us Q I2 r1 r2 q2
end
end L2
namespace L2
open PySem PySem.Spec PyProof.Rows
noncomputable def MtM (X : Cx) (id : String) (r : V → List V → Hp → VK → Prop) : Prop :=
  ∀ (pins : List (Addr × Obj)) (s : Shared) (σ : St) (H : Hp) (x : V) (xs : List V) (v : Value) (us : List Value) (Q : VK), Inv X pins σ H s → RelV x v → Vals xs us → r x xs H Q →
    wpAny (model X.prog X.w) X.A (call (.builtin id) (v :: us)) (EP X pins σ Q) X.xe s
theorem Vals.one : ∀ {x : V} {us : List Value}, Vals [x] us → ∃ u, us = [u] ∧ RelV x u
  | _, _, .cons r .nil => ⟨_, rfl, r⟩
theorem Vals.zero : ∀ {us : List Value}, Vals [] us → us = []
  | _, .nil => rfl
theorem Vals.dropLast {xs : List V} {us : List Value} (h : Vals xs us) : Vals xs.dropLast us.dropLast := by
  induction h with
  | nil => exact .nil
  | cons r t ih =>
    cases t with
    | nil => exact .nil
    | cons q t' => exact .cons r ih
theorem Vals.reverse {xs : List V} {us : List Value} (h : Vals xs us) : Vals xs.reverse us.reverse := by
  induction h with
  | nil => exact .nil
  | cons r t ih => rw [List.reverse_cons, List.reverse_cons]; exact Vals.append ih (.cons r .nil)
theorem Vals.rep {xs : List V} {us : List Value} (h : Vals xs us) : ∀ k : Nat, Vals (List.replicate k xs).flatten (List.replicate k us).flatten
  | 0 => .nil
  | k + 1 => by
    rw [List.replicate_succ, List.replicate_succ, List.flatten_cons, List.flatten_cons]
    exact Vals.append h (Vals.rep h k)
theorem foldl_rep (its : List Value) : ∀ (k : Nat) (acc : List Value),
    List.foldl (fun x1 x2 => x1 ++ x2) acc.toArray (List.replicate k its.toArray) = (acc ++ (List.replicate k its).flatten).toArray
  | 0, acc => by simp
  | k + 1, acc => by
    have e : acc.toArray ++ its.toArray = (acc ++ its).toArray := by simp
    have e2 : (acc ++ its) ++ (List.replicate k its).flatten = acc ++ (List.replicate (k + 1) its).flatten := by
      rw [List.replicate_succ, List.flatten_cons, List.append_assoc]
    rw [← e2, ← foldl_rep its k (acc ++ its), ← e, List.replicate_succ, List.foldl_cons]
section
variable {X : Cx} {pins : List (Addr × Obj)} {σ : St} {H : Hp} {s : Shared} {l b : Addr} {xs ys zs : List V}
theorem Inv.lset {its its' : List Value} {n : Nat} {f : Array Value → Array Value} {t' : Nat} (I : Inv X pins σ H s) (hH : H l = some (.lst xs))
    (e : s.heap.get? l = some { cls := .type "list", data := .seq its.toArray n }) (hf : f its.toArray = its'.toArray) (hv : Vals ys its') (hz : ys.length ≤ sizeLine) :
    Inv X pins σ (upd H l (.lst ys)) { s with heap := s.heap.update l (Obj.mapSeq f), toks := t' } := by
  have q := PySem.IsL.update e f
  rw [hf] at q
  refine I.write (x := l) (e := l) (by rw [hH]; exact trivial) (.inl rfl) (fun b' u hb hu => (Heap.get?_update_other s.heap (Obj.mapSeq f) (Ne.symm hb)).trans hu) ⟨_, q⟩ ?_
  exact ⟨hz, its', _, hv, q⟩
theorem Inv.lnew {its : List Value} {t' : Nat} (I : Inv X pins σ H s) (hv : Vals ys its) (hz : ys.length ≤ sizeLine) :
    Inv X pins σ (upd H s.heap.objs.size (.lst ys)) { s with heap := s.heap.push { cls := .type "list", data := .seq its.toArray }, toks := t' } :=
  I.laid (fun _ _ q => Heap.get?_push_of_some _ q) (Nat.le_refl _) ⟨hz, its, 0, hv, Heap.get?_push_size _ rfl⟩
theorem Inv.fresh (I : Inv X pins σ H s) : H s.heap.objs.size = none := I.hok.fresh (Nat.le_refl _)
theorem Inv.lstM (I : Inv X pins σ H s) (hH : H l = some (.lst xs)) : xs.length ≤ sizeLine ∧ ∃ (its : List Value) (n : Nat), Vals xs its ∧ xs.length = its.length ∧ s.heap.get? l = some { cls := .type "list", data := .seq its.toArray n } := by
  obtain ⟨z, its, n, r, e⟩ := I.hok l _ hH
  exact ⟨z, its, n, r, r.length, e⟩
theorem notLongL {n : Nat} (h : n ≤ sizeLine) : Builtin.List.listTooLong n = false := by
  unfold Builtin.List.listTooLong
  exact decide_eq_false (by omega)
end
section
variable {X : Cx}
noncomputable def rAppend : V → List V → Hp → VK → Prop := fun x vs H Q => ∃ l xs y, x = .ref l ∧ vs = [y] ∧ H l = some (.lst xs) ∧ xs.length < sizeLine ∧ Q .non (upd H l (.lst (xs ++ [y])))
theorem mt_append : MtM X "list.append" rAppend := by
  intro pins s σ H x vs v us Q I rx rv h
  obtain ⟨l, xs, y, rfl, rfl, hH, hz, q⟩ := h
  cases rx
  obtain ⟨u, rfl, ru⟩ := rv.one
  obtain ⟨z, its, n, r, hl, e⟩ := I.lstM hH
  refine call_meets F.slot_list_append ⟨_, e, rfl⟩ F.entry_list_append (F.args_list_append_2 _ _) (PySem.list_append l its.toArray n u (by rw [List.size_toArray]; omega)) ⟨e, ?_⟩
  refine ⟨.non, _, I.lset (its' := its ++ [u]) hH e (by simp) (r.append (.cons ru .nil)) ?_, rfl, q⟩
  rw [List.length_append, List.length_singleton]
  omega
theorem len_rep {α : Type} (xs : List α) (k : Nat) : (List.replicate k xs).flatten.length = k * xs.length := by
  induction k with
  | zero => simp
  | succ k ih => rw [List.replicate_succ, List.flatten_cons, List.length_append, ih, Nat.succ_mul, Nat.add_comm]
end
section
variable {prog : Program} {w : World} {A : Around} {E : Value → Shared → Prop} {s : Shared}
theorem bounds_run {a c n : Nat} (hac : a ≤ c) (hc : c ≤ n) : sliceBounds (some (a : Int)) (some (c : Int)) none n = ((a : Int), (c : Int), 1) := by
  simp only [sliceBounds, Option.getD_none]
  have h1 : ¬ ((a : Int) < 0) := by omega
  have h2 : ¬ ((c : Int) < 0) := by omega
  simp only [h1, h2, if_false, show (1 : Int) > 0 by decide, if_true]
  congr 1
  · omega
  · congr 1; omega
set_option maxRecDepth 100000 in
theorem setItem_slice {l b sl : Addr} {items new : Array Value} {n n2 : Nat} {vl vu : Value} {a c : Nat} {Q : Unit → Shared → Prop}
    (e : s.heap.get? l = some { cls := .type "list", data := .seq items n }) (e2 : s.heap.get? b = some { cls := .type "list", data := .seq new n2 }) (hne : l ≠ b)
    (hs : s.heap.IsSliceOf sl vl vu .none) (pl : IsPart vl (some (a : Int))) (pu : IsPart vu (some (c : Int))) (hac : a ≤ c) (hc : c ≤ items.size)
    (hsz : items.size + new.size ≤ sizeLine) (h : Q () { s with heap := s.heap.update l (Obj.mapSeq fun xs => xs.extract 0 a ++ new ++ xs.extract c xs.size) }) :
    wpAny (model prog w) A (setItem (.ref l) (.ref sl) (.ref b)) Q E s := by
  have hl : s.heap.IsList l items := PySem.IsL.isList e
  have hb : s.heap.IsList b new := PySem.IsL.isList e2
  obtain ⟨os, hos, hcs, hds⟩ := id hs
  have hTs : s.TypeIs (.ref sl) "slice" := ⟨os, hos, hcs⟩
  have hstep : ¬ ((rawPart none == rawInt 0) = true) := Bool.false_ne_true
  have hsame : Builtin.List.listSameRef (.ref l) (.ref b) = false := by
    unfold Builtin.List.listSameRef
    exact beq_eq_false_iff_ne.mpr hne
  have hmax : (max (a : Int) (c : Int)).toNat = c := by omega
  have hz' : ((fun xs : Array Value => xs.extract 0 a ++ new ++ xs.extract c xs.size) items).size ≤ sizeLine + 1 := by
    simp only [Array.size_append, Array.size_extract]
    omega
  unfold setItem
  try with_reducible refine wpAny_holding ?_
  first | refine wpAny_bind (wpAny_pure ?_) | skip
  refine wpAny_bind (wpAny_sequenceKey hl.typeIs (by decide) ?_)
  refine wpAny_bind (wpAny_callSpecial?_slot (name := Str.ofString "__setitem__") hl.typeIs slot_list_setitem
    (wpAny_call_entry slot_list_setitem hl.typeIs entry_list_setitem ?_ (args_list_setitem _ _ _)))
  show wpAny _ _ (Builtin.List.listSubscript? (.ref sl) >>= _) _ _ s
  refine wpAny_bind ?_
  unfold Builtin.List.listSubscript?
  refine wpAny_bind (wpAny_specialOf hTs slice_no_index ?_)
  simp only [Option.isNone_none, if_true]
  refine wpAny_pure ?_
  show wpAny _ _ (typeOf (.ref sl) >>= _) _ _ s
  refine wpAny_bind (wpAny_typeOf hTs ?_)
  first
    | rw [if_neg (by decide)]
    | refine PySem.W.KFB.if_not (by decide) ?_
  rw [listSliceParts_eq]
  refine wpAny_bind (wpAny_bind (wpAny_field hos hds (x := .none) rfl (wpAny_bind (wpAny_listPart .none ?_))))
  rw [if_neg hstep]
  refine wpAny_bind (wpAny_field hos hds (x := vl) rfl (wpAny_bind (wpAny_listPart pl ?_)))
  refine wpAny_bind (wpAny_field hos hds (x := vu) rfl (wpAny_bind (wpAny_listPart pu (wpAny_pure ?_))))
  first
    | simp only [hsame, Bool.false_eq_true, if_false]
    | refine PySem.W.KFB.if_not hsame ?_
    | (dsimp only
       rw [if_neg (by rw [hsame]; exact Bool.false_ne_true)])
  refine wpAny_bind (m := Builtin.List.listAllItems (.ref b) "must assign iterable to extended slice") ?_
  unfold Builtin.List.listAllItems
  refine wpAny_bind (wpAny_typeOf hb.typeIs ?_)
  first
    | refine PySem.W.KFB.if_so (by decide) ?_
    | rw [if_pos (by decide)]
    | simp only [beq_self_eq_true, Bool.true_or, if_true]
  unfold Builtin.List.listItems
  refine wpAny_bind (wpAny_seqItems e2 rfl (wpAny_pure ?_))
  refine wpAny_bind (wpAny_bind (wpAny_seqItems e rfl (wpAny_pure ?_)))
  refine wpAny_bind (wpAny_of_eq ((sliceIndices_raw (some (a : Int)) (some (c : Int)) none items.size (by simp)).trans (congrArg (pure : Int × Int × Int → Sem (Int × Int × Int)) (bounds_run hac hc))) ?_)
  show wpAny _ _ (if ((1 : Int) == 1) = true then _ else _) _ _ s
  rw [if_pos (by decide)]
  refine wpAny_bind (wpAny_rule ?_)
  first
    | simp only [notLongL hsz, Bool.false_eq_true, if_false]
    | refine PySem.W.KFB.if_not (notLongL hsz) ?_
  first | refine wpAny_bind (wpAny_pure ?_) | skip
  show wpAny _ _ (updateSeq l (fun xs => xs.extract 0 ((a : Int)).toNat ++ new ++ xs.extract (max (a : Int) (c : Int)).toNat xs.size) >>= _) _ _ s
  rw [hmax, Int.toNat_natCast]
  refine wpAny_bind (wpAny_updateSeq (hz := Nat.le_trans (Nat.le_add_right _ _) hsz) (_hz' := hz') e rfl ?_)
  refine wpAny_bind (wpAny_letGo ?_)
  first
    | exact wpAny_bind (wpAny_pure (wpAny_pure ⟨.none, rfl, wpAny_pure h⟩))
    | exact wpAny_pure ⟨.none, rfl, wpAny_pure h⟩
end
section
variable {X : Cx}
end
end L2
namespace Att
open PySem PySem.W PySem.Calls PyProof.Rows
theorem ints_of_wellAll {P : Params} {h : Heap} : ∀ (ns : List Int) (vs : List Value), WellAll P h vs (ns.map WData.int) → IntsAre vs ns := by
  intro ns
  induction ns with
  | nil =>
    intro vs w
    rw [List.map_nil] at w
    cases w
    exact .nil
  | cons n ns ih =>
    intro vs w
    rw [List.map_cons] at w
    cases w with
    | cons a b =>
      cases a
      exact .cons _ _ (ih _ b)
theorem script_of {l : OpenLaw} {n : Nat} (hn : l.most = some n) {P : Params} {h : Heap} {args : List WData} {vals : List Value}
    (hpre : l.row.toRowW.claim.pre args = true) (hwl : WellAll P h vals args) :
    ∃ a vs ns, vals = [Value.ref a] ∧ args = [WData.list (ns.map WData.int)] ∧ h.get? a = some { cls := .type "list", data := .seq vs.toArray } ∧ IntsAre vs ns ∧ ns.length ≤ n := by
  have hsh : WShape.hasAll [] args [.list .int] = true := (pre_splitW hpre).1
  have hc : l.pre.holds [] { args := args } = true := (pre_splitW hpre).2
  obtain ⟨d, r, rfl, h1, h2⟩ := hasAllW_cons hsh
  obtain rfl := hasAllW_nil h2
  obtain ⟨xs, rfl, h3⟩ := hasW_list h1
  obtain ⟨ns, rfl⟩ := items_int h3
  have hlen : ns.length ≤ n := by
    unfold OpenLaw.pre at hc
    have h4 : (WTm.not (.lt (.lit (.int (n : Int))) (.len (.arg 0)))).holds [] { args := [.list (ns.map .int)] } = true := by
      have h4 := (holds_andW hc).1
      rw [hn] at h4
      exact h4
    have h5 := condW_of h4 (w_not (w_lt w_lit (w_len_list (w_arg rfl))))
    rw [List.length_map] at h5
    refine Nat.le_of_not_lt fun q => ?_
    have q' : (n : Int) < ((ns.length : Nat) : Int) := by omega
    first
      | (rw [decide_eq_true q'] at h5; exact absurd h5 (by decide))
      | (simp at h5; omega)
  cases hwl with
  | cons w1 w2 =>
    cases w2
    cases w1 with
    | list ho hall => exact ⟨_, _, ns, rfl, rfl, ho, ints_of_wellAll ns _ hall, hlen⟩
theorem post_true (l : OpenLaw) (args : List WData) : l.row.toRowW.claim.post args (.bool true) args = true :=
  postW_of (r := l.row.toRowW) (X := (true == true))
    (show WShape.has [] (.bool true) .bool = true by first | rfl | decide | simp [WShape.has, WShape.arms, WShape.armsAll])
    (show (WTm.eq .res (.lit (.bool true))).value [] { args := args, res := some (.bool true), after := args } = some (.bool (true == true)) from w_eq_bool (w_res rfl) w_lit) rfl
theorem attach_call {l : OpenLaw} {n : Nat} {q : Program} {loose : List Str} {XP : (Str → Option Value) → Heap → Prop} {YP : World → Heap → Prop} {d : DefRec}
    (hn : l.most = some n) (hdf : d.params.defaults = [])
    (call : ∀ (w : World) (s₀ s₁ : Shared) (mg mb : Str → Option Value) (fa : Addr) (o : Obj) (pm cd doc : Value) (a : Addr) (vs : List Value) (ns : List Int),
      Ground q loose [] XP w s₀ mg mb s₁.heap → YP w s₁.heap →
      s₁.heap.get? fa = some o → o.data = .func (docDef d.name d.params d.body d.scope pm cd doc) → s₁.heap.CodeRec cd d.name → mg d.name = some (.ref fa) →
      s₁.heap.get? a = some { cls := .type "list", data := .seq vs.toArray } → IntsAre vs ns → ns.length ≤ n → s₁.gens = #[] →
      codeAny (model l.prog w) callerA (.call (.ref fa) ⟨[.ref a], []⟩) (fun r s' => r = .ok (.ret (.bool true)) ∧ OldK s₁.heap s'.heap ∧ s'.os = s₁.os ∧ AllBare s'.gens) s₁) :
    WalkO q loose XP YP l.row.toRowW d [] (fun f vs => PySem.call f vs) := by
  intro w s₀ s₁ mg mb G Y fa o pm cd doc dV kV ho hd hcd hD hmg hg args vals as hpre hlay hrd hwl hlo
  obtain rfl : dV = .none := Dflts.none hD hdf
  obtain rfl : kV = .none := Dflts.noKw hD
  obtain ⟨a, vs, ns, rfl, rfl, hobj, hints, hlen⟩ := script_of hn hpre hwl
  refine enter_call (codeAny_mono (call w s₀ s₁ mg mb fa o pm cd doc a vs ns G Y ho (fd_plain hd) hcd hmg hobj hints hlen hg) fun r s' hq => ?_)
  obtain ⟨rfl, h2, h3, h4⟩ := hq
  exact ⟨.inl ⟨.bool true, .bool true, [], rfl, fun _ => rfl, .bool true, post_true l _, fun _ => ⟨List.Pairwise.nil, fun _ hm => (nomatch hm)⟩⟩, h2, h3, h4⟩
section
variable {prog : Program} {w : World} {A : Around} {E : Value → Shared → Prop} {s : Shared} {K : Frag}
end
end Att
namespace L2
open PySem PySem.Spec PyProof.Rows
theorem vals_ints : ∀ {vs : List Value} {ns : List Int}, IntsAre vs ns → Vals (ns.map V.int) vs
  | _, _, .nil => .nil
  | _, _, .cons n t h => .cons ⟨t, rfl⟩ (vals_ints h)
noncomputable def Only (H : Hp) : Prop := ∀ b, H b = none ∨ ∃ o xs, H b = some (.frz o (.lst xs))
theorem law_call {P : Program} {w : World} {K : PySem.W.Frag} {mg mb : Str → Option Value} {CX : CXT} {k : Nat} {fa a : Addr} {fd : FuncData} {x : Str} {sp : Sp} {s₁ : Shared} {vs : List Value} {ns : List Int}
    (KX : K.In s₁.heap) (hns : s₁.heap.Ns mainGlobals mg) (hb : s₁.heap.Ns builtinsNs mb) (hbb : ∀ x : Str, x ≠ "__name__" → mb x = bootBuiltins x) (hlim : s₁.heap.NoLimit) (hg : s₁.gens = #[])
    (ha : s₁.heap.get? a = some { cls := .type "list", data := .seq vs.toArray }) (hi : IntsAre vs ns) (hl : ns.length ≤ sizeLine) (hr : Room k callerA)
    (F : ∀ base : Heap, K.In base → base.Ns mainGlobals mg → FnOk P w K mg base CX k fa fd [x] sp) (hbind : ∀ (s : Shared) (u : Value), BindsTo s fd ⟨[u], []⟩ [(x, u)])
    (hsp : ∀ H : Hp, Only H → SqL K H a (ns.map V.int) → sp [.ref a] H (fun v _ => v = .bl true) fun _ _ _ => False)
    (hCX : ∀ H e s', CX [] H s₁ (fun _ _ _ => False) e s' → False) :
    codeAny (model P w) callerA (.call (.ref fa) ⟨[.ref a], []⟩) (fun r s' => r = .ok (.ret (.bool true)) ∧ OldK s₁.heap s'.heap ∧ s'.os = s₁.os ∧ AllBare s'.gens) s₁ := by
  have rv := vals_ints hi
  have lenV := hi.length
  have core : ∀ H : Hp, Only H → SqL K H a (ns.map V.int) → HOk P w H s₁.heap → (∀ b, H b ≠ none → b = a) → (H a ≠ none → K.lookup a = none) →
      codeAny (model P w) callerA (.call (.ref fa) ⟨[.ref a], []⟩) (fun r s' => r = .ok (.ret (.bool true)) ∧ OldK s₁.heap s'.heap ∧ s'.os = s₁.os ∧ AllBare s'.gens) s₁ := by
    intro H hO hS hok hA hK
    have base_of : ∀ {b : Addr} {o : Obj}, s₁.heap.get? b = some o → H b = none → (hidT s₁.heap H).get? b = some o := fun e n => hidT_get e n
    have noA : ∀ {b : Addr} {o : Obj} {es : Array DictEntry} {ep : Nat}, s₁.heap.get? b = some o → o.data = .dict es ep → H b = none := fun {b o es ep} e d => by
      cases q : H b with
      | none => rfl
      | some u =>
        have e' : b = a := hA b (by rw [q]; simp)
        subst e'
        rw [ha] at e; cases e
        have d' : Data.seq vs.toArray _ = Data.dict es ep := d
        cases d'
    have nsK : ∀ {b : Addr} {m : Str → Option Value}, s₁.heap.Ns b m → (hidT s₁.heap H).Ns b m := fun {b m} ⟨o, es, ep, e, d, r⟩ => ⟨o, es, ep, base_of e (noA e d), d, r⟩
    have hKb : K.In (hidT s₁.heap H) := fun b o e => base_of (KX b o e) (by
      cases q : H b with
      | none => rfl
      | some u =>
        have e' : b = a := hA b (by rw [q]; simp)
        subst e'
        rw [hK (by rw [q]; simp)] at e; cases e)
    have hM : Mod K mg (hidT s₁.heap H) := ⟨hKb, nsK hns, ⟨mb, nsK hb, hbb⟩, let ⟨mc, h1, h2⟩ := hlim; ⟨mc, nsK h1, h2⟩⟩
    have e0 : Env0 P w K mg (hidT s₁.heap H) callerA [] s₁ H := ⟨rfl, hM, fun b o e => of_hidT e, Nat.le_of_eq (hidT_size _ _), trivial, fun b hb => absurd (show b ∈ ([] : List Addr) from hb) (by simp), hok, .of_eq hg⟩
    refine codeAny_mono ((F _ hKb (nsK hns)).run callerA [] s₁ H ⟨[.ref a], []⟩ [.ref a] [.ref a] _ _ hr e0 (hbind s₁ (.ref a)) (.cons rfl .nil) (hsp H hO hS)) fun r s' h => ?_
    cases r with
    | error e => exact (hCX H e s' h).elim
    | ok fl =>
      cases fl with
      | next => exact False.elim h
      | brk => exact False.elim h
      | cont => exact False.elim h
      | ret u =>
        obtain ⟨v, H', os, bare, un, hok', r', q⟩ := h
        have q' : v = .bl true := q
        subst q'
        obtain rfl : u = Value.bool true := r'
        refine ⟨rfl, OldK.of_keep fun b o e => ?_, os, bare⟩
        cases q : H b with
        | none => exact un.keep b o e q (by intro z; exact absurd (show b ∈ ([] : List Addr) from z) (by simp)) (by simp)
        | some u =>
          rcases hO b with z | ⟨ob, xs, z⟩
          · rw [q] at z; cases z
          · have z2 := un.frzs b ob _ z
            obtain ⟨e1, _⟩ := hok b _ z
            obtain ⟨e2, _⟩ := hok' b _ z2
            rw [e] at e1; cases e1
            exact e2
  cases hk : K.lookup a with
  | some o =>
    have e := KX a o hk
    rw [ha] at e
    cases e
    refine core (fun _ => none) (fun _ => .inl rfl) (.inr ⟨_, vs.toArray, _, hk, rfl, rfl, rfl, by rw [List.size_toArray, lenV]; exact hl, by simpa using rv⟩) (fun b u z => by have z' : (none : Option HO) = some u := z; cases z') (fun b z => absurd rfl z) fun z => absurd rfl z
  | none =>
    refine core (fun b => if b = a then some (.frz { cls := .type "list", data := .seq vs.toArray } (.lst (ns.map V.int))) else none) (fun b => ?_) (.inl (.inr ⟨{ cls := .type "list", data := .seq vs.toArray }, if_pos rfl⟩)) (fun b u z => ?_) (fun b z => ?_) fun _ => hk
    · by_cases hb : b = a
      · exact .inr ⟨_, _, if_pos hb⟩
      · exact .inl (if_neg hb)
    · by_cases hb : b = a
      · have z' := (if_pos hb).symm.trans z
        cases z'
        subst hb
        exact ⟨ha, by rw [List.length_map]; exact hl, vs, _, rv, ha⟩
      · have z' := (if_neg hb).symm.trans z
        cases z'
    · by_cases hb : b = a
      · exact hb
      · exact absurd (if_neg hb) z
end L2
namespace L2
open PySem PySem.Spec PyProof.Rows
theorem walk_of {l : PySem.W.OpenLaw} {n k : Nat} {q : Program} {loose : List Str} {XP : (Str → Option Value) → Heap → Prop} {YP : World → Heap → Prop} {d : DefRec} {K : Params → PySem.W.Frag} {CX : World → CXT} {sp : World → Sp} {x : Str}
    (hn : l.most = some n) (hn2 : n ≤ sizeLine) (hdf : d.params.defaults = []) (hr : Room k callerA)
    (hY : ∀ (w : World) (h : Heap), YP w h → (K w.params).In h)
    (F : ∀ (w : World) (mg : Str → Option Value) (fa : Addr) (h : Heap), (K w.params).In h → h.Ns mainGlobals mg → mg d.name = some (.ref fa) →
      ∃ fd : FuncData, (∀ (s : Shared) (u : Value), BindsTo s fd ⟨[u], []⟩ [(x, u)]) ∧
        ∀ base : Heap, (K w.params).In base → base.Ns mainGlobals mg → FnOk l.prog w (K w.params) mg base (CX w) k fa fd [x] (sp w))
    (hsp : ∀ (w : World) (H : Hp) (a : Addr) (ns : List Int), ns.length ≤ n → Only H → SqL (K w.params) H a (ns.map V.int) → sp w [.ref a] H (fun v _ => v = .bl true) fun _ _ _ => False)
    (hCX : ∀ (w : World) (H : Hp) (s : Shared) (e : Value) (s' : Shared), CX w [] H s (fun _ _ _ => False) e s' → False) :
    PySem.W.WalkO q loose XP YP l.row.toRowW d [] (fun f vs => PySem.call f vs) := by
  refine Att.attach_call hn hdf fun w s₀ s₁ mg mb fa o pm cd doc a vs ns G Y ho hd hcd hmg hobj hints hlen hg => ?_
  have KX := hY w _ Y
  obtain ⟨fd, hb, hF⟩ := F w mg fa _ KX G.T.g hmg
  exact law_call KX G.T.g G.T.b G.T.builtins G.T.nolimit hg hobj hints (Nat.le_trans hlen hn2) hr hF hb (fun H hO hS => hsp w H a ns hlen hO hS) fun H e s' => hCX w H s₁ e s'
end L2
namespace L2
open PySem PySem.Spec PyProof.Rows
noncomputable def defArgs (s : Stmt) : Arguments := match s with
  | .FunctionDef _ a _ _ _ _ _ _ _ _ => a
  | _ => { posonlyargs := [], args := [], vararg := none, kwonlyargs := [], kw_defaults := [], kwarg := none, defaults := [] }
noncomputable def defBody (s : Stmt) : List Stmt := match s with
  | .FunctionDef _ _ b _ _ _ _ _ _ _ => b
  | _ => []
noncomputable def defScope (s : Stmt) : Scope := match s with
  | .FunctionDef _ _ _ _ _ _ sc _ _ _ => sc
  | _ => { kind := .function, names := [], isGenerator := false, isCoroutine := false }
noncomputable abbrev CX0 : CXT := fun _ _ _ _ _ _ => False
noncomputable abbrev E0 : XK := fun _ _ _ => False
theorem pass0 {X : Cx} : Passes CX0 X E0 := fun _ _ _ _ _ _ _ h => h.elim
structure Fun (K : PySem.W.Frag) (x qual : Str) (st : Stmt) (f : Addr) (fd : FuncData) : Prop where
  ex : ∃ (oc : Value) (od : Option Addr) (kV doc pm : Value) (an : Option Addr) (cdv ct : Value) (osl : Array (Option Value)),
    fd = PySem.W.fnOf x qual (defArgs st) (defBody st) (defScope st) .none kV doc pm an cdv ct ∧ K.lookup f = some ⟨oc, od, .func fd, osl⟩ ∧ PySem.W.codeIn K cdv qual = true
  kp : PySem.W.keepIn K (.ref f) = true
section
variable {P : Program} {w : World} {K : PySem.W.Frag} {mg : Str → Option Value} {base : Heap}
theorem Fun.ok {x qual : Str} {st : Stmt} {f : Addr} {fd : FuncData} {N ps : List Str} {k : Nat} {sp : Sp} (F : Fun K x qual st f fd) (S : FnScope N ps (defScope st)) (len : ∀ vs H Q E, sp vs H Q E → vs.length = ps.length)
    (hbody : ∀ (cdv : Value) (A : Around) (outer : List Env) (s : Shared) (H : Hp) (vs : List V) (Q : VK) (E : XK), Room k (A.deeper (envOfC qual (defScope st) s.heap.objs.size f cdv)) → sp vs H Q E →
      ∃ t, PSs (cxOf CX0 P w K mg base N qual (defScope st) f cdv A outer s H E).nox (defBody st) t ∧ t { nx := fun _ H' => Q .non H', rt := Q } (start N vs) H) : FnOk P w K mg base CX0 (k + 1) f fd ps sp := by
  obtain ⟨oc, od, kV, doc, pm, an, cdv, ct, osl, rfl, lk, hcd⟩ := F.ex
  refine fn_of lk hcd S len fun A outer s H vs Q E hr hsp => ?_
  obtain ⟨t, h, q⟩ := hbody cdv A outer s H vs Q E hr hsp
  exact ⟨t, h.nox, q⟩
theorem Fun.binds {x qual : Str} {st : Stmt} {f : Addr} {fd : FuncData} {ps : List Str} (F : Fun K x qual st f fd)
    (h : ∀ (kV doc pm : Value) (an : Option Addr) (cdv ct : Value) (us : List Value), us.length = ps.length → bindArgs (PySem.W.fnOf x qual (defArgs st) (defBody st) (defScope st) .none kV doc pm an cdv ct) ⟨us, []⟩ = pure (ps.zip us)) : Binds K fd ps [] := by
  obtain ⟨oc, od, kV, doc, pm, an, cdv, ct, osl, rfl, lk, hcd⟩ := F.ex
  exact .all (h kV doc pm an cdv ct)
theorem fun_mk {x qual : Str} {st : Stmt} {f : Addr} {oc : Value} {od an : Option Addr} {osl : Array (Option Value)} {kV doc pm cdv ct : Value} (l : K.lookup f = some ⟨oc, od, .func (PySem.W.fnOf x qual (defArgs st) (defBody st) (defScope st) .none kV doc pm an cdv ct), osl⟩)
    (c : PySem.W.codeIn K cdv qual = true) (k : PySem.W.keepIn K (.ref f) = true) : Fun K x qual st f (PySem.W.fnOf x qual (defArgs st) (defBody st) (defScope st) .none kV doc pm an cdv ct) := ⟨⟨oc, od, kV, doc, pm, an, cdv, ct, osl, rfl, l, c⟩, k⟩
end
theorem hu_of {A : Around} {k : Nat} (hr : Room k A) : A.units + 1 < cLine := Nat.lt_of_le_of_lt (Nat.add_le_add_left (by decide : 1 ≤ 64) _) hr.units
section
variable {X : Cx}
theorem pv (i : Nat) {x : Str} {pos : Pos} (hN : X.N[i]? = some x := by rfl) (hv : Vis X.env.scope x := by first | exact Or.inl rfl | exact Or.inr (Or.inl rfl) | exact Or.inr (Or.inr rfl)) (hd : (x == ("__debug__" : Str)) = false := by decide)
    (hcd : (x == ("__classdict__" : Str)) = false := by decide) : PE X (.Name x pos) (tVar i) := pe_var hN hv hd hcd
end
theorem iteF {A B : Prop} (h : B) : if false = true then A else B := by
  rw [if_neg Bool.false_ne_true]
  exact h
theorem iteT {A B : Prop} (h : A) : if true = true then A else B := by
  rw [if_pos rfl]
  exact h
noncomputable def Same (H H' : Hp) : Prop := ∀ b o, H b = some o → H' b = some o
theorem Same.refl (H : Hp) : Same H H := fun _ _ h => h
theorem Same.trans {H H1 H2 : Hp} (a : Same H H1) (b : Same H1 H2) : Same H H2 := fun c o h => b c o (a c o h)
theorem Same.free {H H' : Hp} (e : Same H H') {l : Addr} (h : H' l = Option.none) : H l = Option.none := by
  cases q : H l with
  | none => rfl
  | some o =>
    rw [e l o q] at h
    cases h
theorem Same.seq {K : PySem.W.Frag} {H H' : Hp} {a : Addr} {xs : List V} (e : Same H H') (h : SqL K H a xs) : SqL K H' a xs := by
  rcases h with (h | ⟨o, h⟩) | h
  · exact .inl (.inl (e _ _ h))
  · exact .inl (.inr ⟨o, e _ _ h⟩)
  · exact .inr h
end L2
set_option maxHeartbeats 4000000
namespace L2
open PySem PySem.Spec PyProof.Rows
noncomputable def clOf (env : Env) : List (Str × NameKind) → List (Str × Addr) → List (Str × Addr)
  | [], acc => acc
  | (n, k) :: r, acc => if (k == NameKind.free) = true then (match env.cells.lookup n with | some a => clOf env r ((n, a) :: acc) | none => clOf env r acc) else clOf env r acc
theorem clOf_sub {env : Env} : ∀ {names : List (Str × NameKind)} {acc : List (Str × Addr)}, (∀ x c, acc.lookup x = some c → env.cells.lookup x = some c) →
    ∀ x c, (clOf env names acc).lookup x = some c → env.cells.lookup x = some c
  | [], _, h => h
  | (n, k) :: r, acc, h => by
    intro x c e
    unfold clOf at e
    split at e
    · split at e
      · rename_i a ha
        refine clOf_sub (names := r) (acc := (n, a) :: acc) (fun y d q => ?_) x c e
        rw [List.lookup_cons] at q
        split at q
        · rename_i hy
          have : y = n := by simpa using hy
          subst this
          rw [ha]; exact q
        · exact h y d q
      · exact clOf_sub h x c e
    · exact clOf_sub h x c e
theorem clOf_keep {env : Env} : ∀ {names : List (Str × NameKind)} {acc : List (Str × Addr)} {x : Str}, (∃ c, acc.lookup x = some c) → ∃ c, (clOf env names acc).lookup x = some c
  | [], _, _, h => h
  | (n, k) :: r, acc, x, h => by
    unfold clOf
    split
    · split
      · rename_i a ha
        refine clOf_keep ?_
        rw [List.lookup_cons]
        split
        · exact ⟨_, rfl⟩
        · exact h
      · exact clOf_keep h
    · exact clOf_keep h
theorem clOf_has {env : Env} : ∀ {names : List (Str × NameKind)} {acc : List (Str × Addr)} {x : Str}, (x, NameKind.free) ∈ names → (∃ c, env.cells.lookup x = some c) → ∃ c, (clOf env names acc).lookup x = some c
  | (n, k) :: r, acc, x, hm, hc => by
    rcases List.mem_cons.mp hm with e | e
    · cases e
      obtain ⟨c, hc⟩ := hc
      unfold clOf
      rw [if_pos (by rfl), hc]
      exact clOf_keep ⟨c, by rw [List.lookup_cons]; simp⟩
    · unfold clOf
      split
      · split
        · exact clOf_has e hc
        · exact clOf_has e hc
      · exact clOf_has e hc
theorem clos_run {env : Env} : ∀ (names : List (Str × NameKind)) (acc : List (Str × Addr)), (∀ x ∈ names, x.2 = .free → ∃ c, env.cells.lookup x.1 = some c) →
    (forIn names acc (fun (x : Str × NameKind) (r : List (Str × Addr)) => (match x with
      | (name, kind) => if (kind == NameKind.free) = true then do
          let a ← cellOf env name
          pure (ForInStep.yield ((name, a) :: r))
        else pure (ForInStep.yield r))) : Sem (List (Str × Addr))) = pure (clOf env names acc) := by
  intro names
  induction names with
  | nil => intro acc _; rfl
  | cons y r ih =>
    intro acc h
    obtain ⟨n, k⟩ := y
    have ih' := fun acc => ih acc fun x hx => h x (List.mem_cons_of_mem _ hx)
    rw [List.forIn_cons]
    unfold clOf
    by_cases hk : (k == NameKind.free) = true
    · have hk' : k = .free := by simpa using hk
      obtain ⟨c, hc⟩ := h (n, k) List.mem_cons_self hk'
      simp only [hk, if_true, cellOf, hc]
      exact ih' _
    · simp only [hk, Bool.false_eq_true, if_false]
      exact ih' _
theorem closureFor_eq {scope : Scope} {env : Env} (h : ∀ x ∈ scope.names, x.2 = .free → ∃ c, env.cells.lookup x.1 = some c) : closureFor scope env = pure (clOf env scope.names []) := by
  have e := clos_run scope.names [] h
  unfold closureFor
  dsimp only
  rw [e]
  rfl
structure BA where
  fp : List Addr
  pins : List (Addr × Obj)
  s : Shared
  H : Hp
  C : Addr
noncomputable def blk (X : Cx) (N : List Str) (sc : Scope) (b : BA) : Cx :=
  { prog := X.prog, w := X.w, K := X.K, mg := X.mg, base := X.base, A := X.A, N := N, s₀ := b.s, H₀ := b.H, env := compEnvC sc (clOf X.env sc.names []) b.C X.env,
    outer := X.stack, stack := X.stack, ex := b.fp, fn := fun _ => false, calm := X.calm, pn := X.pn ++ b.pins, xe := fun _ _ => False }
structure Blk (X : Cx) (N : List Str) (sel : List (Option Nat)) (sc : Scope) : Prop where
  kind : sc.kind = .function
  nocell : (sc.names.all fun y => y.2 != .cell) = true
  free : (sc.names.all fun y => y.2 != .free || (X.env.kindOf y.1 == some .cell || X.env.kindOf y.1 == some .free)) = true
  names : (sc.names.all fun y => y.2 != .local || sc.names.lookup y.1 == some .local) = true
  len : sel.length = N.length
  sel : ((N.zip sel).all fun y => match y.2 with | none => true | some j => (X.N[j]? == some y.1) && (sc.names.lookup y.1 == some NameKind.free)) = true
noncomputable def capt (σ : St) (sel : List (Option Nat)) : St := sel.map fun o => match o with | none => none | some j => (σ[j]?).join
theorem lookup_relabel_kind {env : Env} {k : NameKind} : ∀ {names : List (Str × NameKind)} {x : Str},
    (names.map fun (n, k) => if (k == NameKind.free && env.scope.kind == .function && env.kindOf n == some .cell) then (n, NameKind.cell) else (n, k)).lookup x = some k →
    ∃ k', names.lookup x = some k' ∧ (k' = k ∨ (k' = .free ∧ k = .cell))
  | [], _, h => by simp at h
  | (n, k0) :: r, x, h => by
    have ih := @lookup_relabel_kind env k r x
    have h : List.lookup x ((if (k0 == NameKind.free && env.scope.kind == .function && env.kindOf n == some .cell) = true then (n, NameKind.cell) else (n, k0)) :: _) = some k := h
    by_cases hc : (k0 == NameKind.free && env.scope.kind == .function && env.kindOf n == some .cell) = true
    · rw [if_pos hc, List.lookup_cons] at h
      rw [List.lookup_cons]
      cases hx : x == n with
      | true =>
        rw [hx] at h
        simp only at h
        cases h
        have : k0 = .free := by
          simp only [Bool.and_eq_true, beq_iff_eq] at hc
          exact hc.1.1
        subst this
        exact ⟨_, rfl, .inr ⟨rfl, rfl⟩⟩
      | false =>
        rw [hx] at h
        exact ih h
    · rw [if_neg hc, List.lookup_cons] at h
      rw [List.lookup_cons]
      cases hx : x == n with
      | true =>
        rw [hx] at h
        simp only at h
        cases h
        exact ⟨_, rfl, .inl rfl⟩
      | false =>
        rw [hx] at h
        exact ih h
section
variable {X : Cx} {pins : List (Addr × Obj)} {σ : St} {H : Hp} {s : Shared} {N : List Str} {sel : List (Option Nat)} {sc : Scope} {fp : List Addr}
theorem Blk.freeAt (B : Blk X N sel sc) : ∀ y ∈ sc.names, y.2 = .free → (X.env.kindOf y.1 = some .cell ∨ X.env.kindOf y.1 = some .free) := fun y hy hf => by
  have h := List.all_eq_true.mp B.free y hy
  rw [hf] at h
  simpa using h
theorem Blk.has (B : Blk X N sel sc) (ok : X.Ok) : ∀ y ∈ sc.names, y.2 = .free → ∃ c, X.env.cells.lookup y.1 = some c := fun y hy hf => ok.has _ (B.freeAt y hy hf)
theorem Blk.sub (_ : Blk X N sel sc) : ∀ x c, (clOf X.env sc.names []).lookup x = some c → X.env.cells.lookup x = some c := clOf_sub fun _ _ e => by simp at e
theorem mem_lookup {names : List (Str × NameKind)} {x : Str} {k : NameKind} (h : names.lookup x = some k) : (x, k) ∈ names := PySem.mem_of_lookup h
theorem blk_start (B : Blk X N sel sc) (I : Inv X pins σ H s) (hfp : ∀ x ∈ fp, FpOk X pins H x) (hobj : ∀ x ∈ fp, ∃ o, s.heap.get? x = some o) {h' : Heap} {tk : Nat} {d : Obj}
    (hn : h'.Ns s.heap.objs.size fun _ => none) (sb : Heap.SameBut s.heap.objs.size (s.heap.push d) h') :
    Inv (blk X N sc ⟨fp, pins, s, H, s.heap.objs.size⟩) [] (capt σ sel) H { s with heap := h', toks := tk } := by
  have kept : ∀ b o, s.heap.get? b = some o → h'.get? b = some o := fun b o e => (sb.2 b (Nat.ne_of_lt (Heap.lt_size e))).trans (Heap.get?_push_of_some _ e)
  have hasb : ∀ x, ((relabel sc X.env).names.lookup x = some .cell ∨ (relabel sc X.env).names.lookup x = some .free) → (x, NameKind.free) ∈ sc.names := fun x hx => by
    have nocell : ∀ z, sc.names.lookup z ≠ some .cell := fun z e => by
      have := List.all_eq_true.mp B.nocell _ (mem_lookup e)
      simp at this
    rcases hx with hx | hx
    · obtain ⟨k', e, q | ⟨q, _⟩⟩ := lookup_relabel_kind hx
      · subst q; exact absurd e (nocell x)
      · subst q; exact mem_lookup e
    · obtain ⟨k', e, q | ⟨_, q⟩⟩ := lookup_relabel_kind hx
      · subst q; exact mem_lookup e
      · cases q
  refine ⟨⟨I.ok.mod, B.kind, I.ok.glob, I.ok.blt, Nat.le_refl _, fun x y c h1 h2 => I.ok.inj x y c (B.sub x c h1) (B.sub y c h2), fun x hx => ?_, fun x c hf _ => (by cases hf), I.ok.hd, I.ok.frames, .inl rfl, fun b hb => ?_, I.bs, Nat.le_trans I.ok.bsz I.sz, fun b o e hb => ?_, fun b hb hs => ?_, I.stack, I.stkFree⟩,
    rfl, I.bare, Un.kept kept, ⟨_, hn, fun i x v h1 h2 h3 => ?_⟩, fun x c e => ?_, I.fresh, fun x c e => I.freeC x c (B.sub x c e), fun p hp => ?_, I.hok.kept kept, ?_⟩
  · have hm := hasb x hx
    exact clOf_has hm (B.has I.ok _ hm rfl)
  · obtain ⟨o, e⟩ := hobj b hb
    exact ⟨Nat.ne_of_lt (Heap.lt_size e), fun x c hc => (hfp b hb).2.2.2.2.1 x c (B.sub x c hc)⟩
  · rcases (hfp b hb).2.2.2.1 with z | z
    · exact I.ok.noex b o e z
    · exact absurd (Nat.lt_of_lt_of_le (Heap.lt_size (I.ok.bs b o e).1) z) (Nat.lt_irrefl _)
  · have := I.stkSub b hs
    rcases List.mem_cons.mp this with z | z
    · exact (hfp b hb).2.1 z
    · exact (hfp b hb).2.2.1 z
  ·
    have h1 : N[i]? = some x := h1
    unfold capt at h2
    rw [List.getElem?_map] at h2
    cases hs : sel[i]? with
    | none => rw [hs] at h2; cases h2
    | some o =>
      rw [hs] at h2
      cases o with
      | none => cases h2
      | some j =>
        have h2 : (σ[j]?).join = some v := Option.some.inj h2
        have hz : (x, some j) ∈ N.zip sel := by
          rw [List.mem_iff_getElem?]
          exact ⟨i, by rw [List.getElem?_zip_eq_some]; exact ⟨h1, hs⟩⟩
        have hq := List.all_eq_true.mp B.sel _ hz
        simp only [Bool.and_eq_true, beq_iff_eq] at hq
        obtain ⟨hj, hlk⟩ := hq
        have hm := mem_lookup hlk
        have hσ : σ[j]? = some (some v) := by
          cases e : σ[j]? with
          | none => rw [e] at h2; cases h2
          | some a => rw [e] at h2; cases a with
            | none => cases h2
            | some a => exact congrArg some h2
        have hk := B.freeAt _ hm rfl
        obtain ⟨m, _, hl⟩ := I.loc
        obtain ⟨u, r, lk⟩ := hl j x v hj hσ (hk.elim (fun e => .inr (.inl e)) fun e => .inr (.inr e))
        refine ⟨u, r, .inr ⟨?_, ?_⟩⟩
        · have h3 : (relabel sc X.env).names.lookup x = some .local ∨ (relabel sc X.env).names.lookup x = some .cell ∨ (relabel sc X.env).names.lookup x = some .free := h3
          rcases h3 with h3 | h3 | h3
          · obtain ⟨k', e, q | ⟨_, q⟩⟩ := lookup_relabel_kind h3
            · subst q
              rw [hlk] at e
              cases e
            · cases q
          · exact .inl h3
          · exact .inr h3
        · rcases lk with ⟨k, _⟩ | ⟨_, c, e, z⟩
          · rcases hk with q | q <;> (rw [q] at k; cases k)
          · obtain ⟨c', e'⟩ := clOf_has (acc := []) hm ⟨c, e⟩
            have : c' = c := Option.some.inj ((B.sub x c' e').symm.trans e)
            subst this
            exact ⟨c', e', z.keeps kept⟩
  · obtain ⟨v, z⟩ := I.cell x c (B.sub x c e)
    exact ⟨v, z.keeps kept⟩
  · have hp : p ∈ X.pn ++ pins := by simpa [blk] using hp
    obtain ⟨e, n, ne, nf, d⟩ := I.pin p hp
    refine ⟨kept _ _ e, n, Nat.ne_of_lt (Heap.lt_size e), fun z => ?_, d⟩
    rcases List.mem_cons.mp (I.stkSub _ z) with q | q
    · exact ne q
    · exact nf q
  · unfold capt
    rw [List.length_map]
    exact B.len
theorem blk_end {b : BA} {σ' : St} {H5 : Hp} {s5 : Shared} {h' : Heap} (I3 : Inv X b.pins σ b.H b.s) (hfp : ∀ x ∈ b.fp, FpOk X b.pins b.H x) (I5 : Inv (blk X N sc b) [] σ' H5 s5)
    (sb : Heap.SameBut b.C s5.heap h') : Inv X b.pins σ H5 { s5 with heap := h' } := by
  have hC : b.s.heap.objs.size ≤ b.C := I5.ok.above
  have ne : ∀ c o, b.s.heap.get? c = some o → c ≠ b.C := fun c o e => Nat.ne_of_lt (Nat.lt_of_lt_of_le (Heap.lt_size e) hC)
  have u : Un (frs X.stack) b.fp b.H H5 b.s.heap s5.heap := I5.base
  have hn : H5 b.C = none := I5.free
  refine I3.call' (s' := { s5 with heap := h' }) (ch := b.fp) I5.os ⟨fun c o e n hb hx => (sb.2 c (ne c o e)).trans (u.keep c o e n hb hx), fun c o e n hb hx => ?_, u.free, fun c o e hx => ?_, u.tups, u.frzs, u.tbls⟩ (fun a o e => ?_) I5.bare
    fun x hx => ⟨(hfp x hx).2.2.2.1, (hfp x hx).2.1, (hfp x hx).2.2.2.2.1, (hfp x hx).2.2.2.2.2⟩
  · obtain ⟨sl, q⟩ := u.slot c o e n hb hx
    exact ⟨sl, (sb.2 c (ne c o e)).trans q⟩
  · obtain ⟨o', q⟩ := u.there c o e hx
    exact ⟨o', (sb.2 c (ne c o e)).trans q⟩
  · refine (I5.hok a o e).stay (fun c w' hc q => (sb.2 c ?_).trans q) (fun _ q => q) fun _ _ q => q
    rintro rfl
    rcases hc with z | z
    · rw [← z, hn] at e; cases e
    · rw [hn] at z; cases z
end
noncomputable def PTs (X : Cx) (ifs : List Expr) (t : TT) : Prop :=
  ∀ (pins : List (Addr × Obj)) (s : Shared) (σ : St) (H : Hp) (Q : Bool → Hp → Prop), Inv X pins σ H s → t σ H Q →
    wpAny (model X.prog X.w) X.A (forIn ifs true fun c r => if r = true then do let ok ← isTrue c X.env (eval c X.env); pure (ForInStep.yield ok) else pure (ForInStep.yield r)) (TP X pins σ Q) X.xe s
noncomputable def tTrue : TT := fun _ H Q => Q true H
theorem pts_nil {X : Cx} : PTs X [] tTrue := fun pins s σ H Q I h => wpAny_tests_nil ⟨H, I, h⟩
noncomputable def tLC (wi : TI) (g : TG) (ts : TT) (te : TE) (sel : List (Option Nat)) : TE := fun σ H Q => wi σ H fun J H1 => ∀ acc, H1 acc = none →
  ∃ W : Nat → Nat → St → Hp → Prop, (∃ m, W 0 m (capt σ sel) (upd H1 acc (.lst []))) ∧ ∀ i m σ H, W i m σ H →
    (J.stop i H ∧ Q (.ref acc) H) ∨ (J.go i H ∧ ∃ N : St → Hp → Prop, (∀ σ' H', N σ' H' → ∃ m', m' < m ∧ W (i + 1) m' σ' H') ∧ ∀ x H', J.yld i H x H' → g x σ H' fun σ2 H2 =>
      ts σ2 H2 fun c H3 => if c = true then te σ2 H3 fun v H4 => ∃ ys, H4 acc = some (.lst ys) ∧ ys.length < sizeLine ∧ N σ2 (upd H4 acc (.lst (ys ++ [v]))) else N σ2 H3)
section
variable {X : Cx} {tg iter elt : Expr} {ifs : List Expr} {sc : Scope} {pos : Pos} {wi : TI} {g : TG} {ts : TT} {te : TE} {N : List Str} {sel : List (Option Nat)}
theorem thnF {α : Type} {t : Sem α} {Q Q' : α → Shared → Prop} {M : Model} {A : Around} {E : Value → Shared → Prop} {s : Shared} (h : wpAny M A t Q (fun _ _ => False) s) (hQ : ∀ a s, Q a s → Q' a s) : wpAny M A t Q' E s :=
  wpAny_mono h hQ fun _ _ f => f.elim
theorem comp_blk {pins : List (Addr × Obj)} {σ : St} {H3 : Hp} {s3 : Shared} {acc it : Addr} {fp : List Addr} {tn : Nat → Heap → Prop} {J : It} {RR : Addr → Result → Shared → Prop} {QQ : Hp → Prop} {W : Nat → Nat → St → Hp → Prop} {m0 : Nat} (B : Blk X N sel sc) (hc : X.calm = true)
    (hg : ∀ b, PG (blk X N sc b) tg g) (ht : ∀ b, PTs (blk X N sc b) ifs ts) (he : ∀ b, PE (blk X N sc b) elt te) (I3 : Inv X pins σ H3 s3) (T : Turn X.prog X.w X.K tg J fp it tn) (st3 : tn 0 s3.heap) (f3 : ∀ b ∈ fp, FpOk X pins H3 b)
    (w0 : W 0 m0 (capt σ sel) H3)
    (turn : ∀ i m σ H, W i m σ H → (J.stop i H ∧ QQ H) ∨ (J.go i H ∧ ∃ N : St → Hp → Prop, (∀ σ' H', N σ' H' → ∃ m', m' < m ∧ W (i + 1) m' σ' H') ∧ ∀ x H', J.yld i H x H' → g x σ H' fun σ2 H2 =>
      ts σ2 H2 fun c H3 => if c = true then te σ2 H3 fun v H4 => ∃ ys, H4 acc = some (.lst ys) ∧ ys.length < sizeLine ∧ N σ2 (upd H4 acc (.lst (ys ++ [v]))) else N σ2 H3))
    (hRR : ∀ C H5 s5 m, s5.heap.Ns C m → (∀ h', Heap.SameBut C s5.heap h' → Inv X pins σ H5 { s5 with heap := h' }) → H5 C = none → C ≠ X.env.locals → (∀ x c, X.env.cells.lookup x = some c → c ≠ C) → X.s₀.heap.objs.size ≤ C → (∀ p ∈ X.pn ++ pins, p.1 ≠ C) → QQ H5 → RR C (.ok .next) s5) :
    wpAny (model X.prog X.w) X.A (newFunctionEnv sc X.env.globals (clOf X.env sc.names []) [] X.env.qual none .none (some X.env)) (fun cenv s4 =>
        codeAny (model X.prog X.w) X.A (.compStart (.ListComp elt [⟨tg, iter, ifs, 0⟩] sc pos) 0 (.ref it) (.ref acc) { cenv with scope := relabel sc X.env }) (RR cenv.locals) s4) X.xe s3 := by
  refine wpAny_newFunctionEnv (fun y hy z => ?_) (by intro y hy; simp at hy) (fun h4 hn4 sb4 => ?_) B.kind
  · have := List.all_eq_true.mp B.nocell y hy
    rw [z] at this
    simp at this
  have ob3 : ∀ b ∈ fp, ∃ o, s3.heap.get? b = some o := fun b hb => by
    obtain ⟨o, e, _⟩ := T.obj _ _ st3 b hb
    exact ⟨o, e⟩
  have kept : ∀ b o, s3.heap.get? b = some o → h4.get? b = some o := fun b o e => (sb4.2 b (Nat.ne_of_lt (Heap.lt_size e))).trans (Heap.get?_push_of_some _ e)
  have st4 : tn 0 h4 := T.keep _ _ _ st3 fun b hb o e => kept b o e
  have I4 := blk_start (tk := s3.toks + ([] : List (Str × Value)).length) B I3 f3 ob3 (by simpa using hn4) sb4
  generalize hb : (⟨fp, pins, s3, H3, s3.heap.objs.size⟩ : BA) = b at I4
  have bfp : b.fp = fp := by rw [← hb]
  have bpins : b.pins = pins := by rw [← hb]
  have bs : b.s = s3 := by rw [← hb]
  have bH : b.H = H3 := by rw [← hb]
  have bC : b.C = s3.heap.objs.size := by rw [← hb]
  have fpb : ∀ {H' : Hp}, (∀ x ∈ fp, H' x = none) → ∀ x ∈ fp, FpOk (blk X N sc b) [] H' x := fun {H'} hn x hx => by
    refine ⟨hn x hx, ?_, fun z => ?_, .inl ?_, fun y c e => (f3 x hx).2.2.2.2.1 y c (B.sub y c e), fun p hp => ?_⟩
    · show x ≠ b.C
      rw [bC]
      obtain ⟨o, e⟩ := ob3 x hx
      exact Nat.ne_of_lt (Heap.lt_size e)
    · rcases List.mem_cons.mp (I3.stkSub x z) with q | q
      · exact (f3 x hx).2.1 q
      · exact (f3 x hx).2.2.1 q
    · show x ∈ b.fp
      rw [bfp]; exact hx
    · have hp : p ∈ X.pn ++ b.pins := by simpa [blk] using hp
      rw [bpins] at hp
      exact (f3 x hx).2.2.2.2.2 p hp
  have loop : ∀ s5 : Shared, s5 = { s3 with heap := h4, toks := s3.toks + ([] : List (Str × Value)).length } →
      codeAny (model X.prog X.w) X.A (.compLoop (.ListComp elt [⟨tg, iter, ifs, 0⟩] sc pos) 0 (.ref it) (.ref acc) (blk X N sc b).env) (RR s3.heap.objs.size) s5 := by
    rintro s5 rfl
    refine codeAny_loop rfl (fun n s' => ∃ i σ' H', Inv (blk X N sc b) [] σ' H' s' ∧ tn i s'.heap ∧ (∀ x ∈ fp, H' x = none) ∧ W i n σ' H') (fun n s6 hI => ?_) m0 ⟨0, _, _, I4, st4, fun x hx => (f3 x hx).1, w0⟩
    obtain ⟨i, σ6, H6, I6, st6, fr6, w6⟩ := hI
    show wpAny _ X.A ((compTurn (.ListComp elt [⟨tg, iter, ifs, 0⟩] sc pos) 0 (.ref it) (.ref acc) (blk X N sc b).env).onRaise (fun x => do noteFrame x (blk X N sc b).env; theTreesLotGoes x)) _ _ s6
    refine wpAny_noted ?_
    rw [compTurn_list]
    rcases turn i n σ6 H6 w6 with ⟨stop, qn⟩ | ⟨go, NN, hNN, step⟩
    · refine wpAny_bind (wpAny_standAt (wpAny_bind (thnF (T.done (blk X N sc b) rfl rfl rfl hc i [] s6 σ6 H6 _ I6 (fpb fr6) st6 stop) fun r s7 ⟨hr, I7⟩ => ?_)))
      subst hr
      refine wpAny_pure ?_
      obtain ⟨m7, hn7, _⟩ := I7.loc
      have hn7 : s7.heap.Ns b.C m7 := hn7
      have I3' : Inv X b.pins σ b.H b.s := by rw [bpins, bH, bs]; exact I3
      refine hRR _ H6 s7 m7 (by rw [← bC]; exact hn7) (fun h' sb => ?_) (by rw [← bC]; exact I7.free) ?_ (fun x c e z => ?_) I3.sz (fun p hp => Nat.ne_of_lt (Heap.lt_size (I3.pin p hp).1)) qn
      · rw [← bC] at sb
        have := blk_end (b := b) I3' (fun x hx => by rw [bfp] at hx; rw [bpins, bH]; exact f3 x hx) I7 sb
        rw [bpins] at this
        exact this
      · exact Ne.symm (Nat.ne_of_lt I3.lt)
      · obtain ⟨v, o, ho, _⟩ := I3.cell x c e
        rw [z] at ho
        exact absurd (Heap.lt_size ho) (Nat.lt_irrefl _)
    · refine wpAny_bind (wpAny_standAt (wpAny_bind (thnF (T.item (blk X N sc b) rfl rfl rfl hc i [] s6 σ6 H6 _ I6 (fpb fr6) st6 go) fun r s7 ⟨u, hr, h7⟩ => ?_)))
      subst hr
      refine wpAny_bind (thnF h7 fun _ s8 ⟨x, H8, I8, r8, y8, st8, fr8⟩ => ?_)
      have I8' := I8.pinned (fpb fr8) (T.obj _ _ st8)
      refine wpAny_bind (thnF (hg b _ s8 σ6 H8 x u _ I8' r8 (step x H8 y8)) fun _ s9 ⟨σ9, H9, I9, q9⟩ => ?_)
      refine wpAny_bind (thnF (ht b _ s9 σ9 H9 _ I9 q9) fun ok s10 ⟨H10, I10, q10⟩ => ?_)
      have again : ∀ {sA : Shared} {σ7 : St} {H7 : Hp}, Inv (blk X N sc b) ([] ++ pinsAt fp s8.heap) σ7 H7 sA → NN σ7 H7 → ∃ m, m < n ∧ ∃ i σ' H', Inv (blk X N sc b) [] σ' H' sA ∧ tn i sA.heap ∧ (∀ x ∈ fp, H' x = none) ∧ W i m σ' H' := fun {sA σ7 H7} I7 n7 => by
        obtain ⟨m', hm, w7⟩ := hNN σ7 H7 n7
        refine ⟨m', hm, i + 1, σ7, H7, I7.unpinned, T.keep _ _ _ st8 fun b hb o e => (I7.pin (b, o) (List.mem_append_right _ (List.mem_append_right _ (mem_pinsAt hb e)))).1, fun b hb => ?_, w7⟩
        obtain ⟨o, e, d⟩ := T.obj _ _ st8 b hb
        exact (I7.pin (b, o) (List.mem_append_right _ (List.mem_append_right _ (mem_pinsAt hb e)))).2.1
      cases ok with
      | false =>
        exact wpAny_pure ⟨rfl, again I10 q10⟩
      | true =>
        have q10 : te σ9 H10 _ := q10
        refine wpAny_bind (wpAny_bind (thnF (he b _ s10 σ9 H10 _ I10 q10) fun u' s11 ⟨v, H11, I11, r11, ys, ha, hz, nn⟩ => ?_))
        refine wpAny_bind (thnF (mt_append (X := blk X N sc b) _ s11 σ9 H11 (.ref acc) [v] (.ref acc) [u'] (fun _ H12 => NN σ9 H12) I11 rfl (.cons r11 .nil) ⟨_, ys, v, rfl, rfl, ha, hz, nn⟩) fun _ s12 ⟨_, H12, I12, _, n12⟩ => ?_)
        exact wpAny_pure (wpAny_pure ⟨rfl, again I12 n12⟩)
  have env_eq : (blk X N sc b).env = compEnvC sc (clOf X.env sc.names []) s3.heap.objs.size X.env := by
    show compEnvC sc (clOf X.env sc.names []) b.C X.env = _
    rw [bC]
  show codeAny (model X.prog X.w) X.A (.compStart (.ListComp elt [⟨tg, iter, ifs, 0⟩] sc pos) 0 (.ref it) (.ref acc) (compEnvC sc (clOf X.env sc.names []) s3.heap.objs.size X.env)) (RR s3.heap.objs.size) _
  rw [← env_eq]
  exact codeAny_compStart_list (loop _ rfl) (T.self _ _ _ _ _ st4 (loop _ rfl))
theorem comp_run {pins : List (Addr × Obj)} {s : Shared} {σ : St} {H : Hp} {Q : VK} {RR : Value → Addr → Result → Shared → Prop} (B : Blk X N sel sc) (hc : X.calm = true)
    (hi : PI X tg iter wi) (hg : ∀ b, PG (blk X N sc b) tg g) (ht : ∀ b, PTs (blk X N sc b) ifs ts) (he : ∀ b, PE (blk X N sc b) elt te) (I : Inv X pins σ H s) (h : tLC wi g ts te sel σ H Q)
    (hRR : ∀ acc C H5 s5 m, s5.heap.Ns C m → (∀ h', Heap.SameBut C s5.heap h' → Inv X pins σ H5 { s5 with heap := h' }) → H5 C = none → C ≠ X.env.locals → (∀ x c, X.env.cells.lookup x = some c → c ≠ C) → X.s₀.heap.objs.size ≤ C → (∀ p ∈ X.pn ++ pins, p.1 ≠ C) → Q (.ref acc) H5 → RR (.ref acc) C (.ok .next) s5) :
    wpAny (model X.prog X.w) X.A (eval iter X.env) (fun v s1 => wpAny (model X.prog X.w) X.A (pyIter v) (fun it s2 => wpAny (model X.prog X.w) X.A (newList []) (fun acc s3 =>
      wpAny (model X.prog X.w) X.A (newFunctionEnv sc X.env.globals (clOf X.env sc.names []) [] X.env.qual none .none (some X.env)) (fun cenv s4 =>
        codeAny (model X.prog X.w) X.A (.compStart (.ListComp elt [⟨tg, iter, ifs, 0⟩] sc pos) 0 it acc { cenv with scope := relabel sc X.env }) (RR acc cenv.locals) s4) X.xe s3) X.xe s2) X.xe s1) X.xe s := by
  refine thn (hi pins s σ H _ I h) fun v s1 h1 => thn h1 fun itv s2 h2 => ?_
  obtain ⟨it, fp, tn, J, H2, e, I2, T, st2, f2, q⟩ := h2
  subst e
  obtain ⟨W, ⟨m0, w0⟩, turn⟩ := q _ I2.fresh
  have I3 : Inv X pins σ (upd H2 s2.heap.objs.size (.lst [])) { s2 with heap := s2.heap.push { cls := .type "list", data := .seq ([] : List Value).toArray }, toks := s2.toks } := I2.lnew (ys := []) (its := []) (t' := s2.toks) .nil (Nat.zero_le _)
  have fne : ∀ b ∈ fp, b ≠ s2.heap.objs.size := fun b hb => by
    obtain ⟨o, e, _⟩ := T.obj _ _ st2 b hb
    exact Nat.ne_of_lt (Heap.lt_size e)
  have f3 : ∀ b ∈ fp, FpOk X pins (upd H2 s2.heap.objs.size (.lst [])) b := fun b hb => ⟨by rw [upd_ne (fne b hb)]; exact (f2 b hb).1, (f2 b hb).2⟩
  refine wpAny_newObj_type ?_
  exact comp_blk (QQ := Q (.ref s2.heap.objs.size)) (RR := fun C => RR (.ref s2.heap.objs.size) C) B hc hg ht he I3 T (T.keep _ _ _ st2 fun b hb o e => Heap.get?_push_of_some _ e) f3 w0 turn fun C H5 s5 m => hRR _ C H5 s5 m
theorem pe_lc (B : Blk X N sel sc) (hc : X.calm = true) (hi : PI X tg iter wi) (hg : ∀ b, PG (blk X N sc b) tg g) (ht : ∀ b, PTs (blk X N sc b) ifs ts) (he : ∀ b, PE (blk X N sc b) elt te)
    (hs : ∀ x, foldedSetIterable iter X.env x = pure x := by intro _; rfl) : PE X (.ListComp elt [⟨tg, iter, ifs, 0⟩] sc pos) (tLC wi g ts te sel) := by
  intro pins s σ H Q I h
  rw [eval_ListComp]
  refine wpAny_comprehension_free (use := none) (cl := clOf X.env sc.names []) rfl hs (closureFor_eq (B.has I.ok)) B.kind (fun y hy hl => ?_) ?_
  · have := List.all_eq_true.mp B.names y hy
    rw [hl] at this
    simpa using this
  · refine comp_run (RR := fun acc C => compPost (model X.prog X.w) X.A X.xe none (EP X pins σ Q) acc C) B hc hi hg ht he I h ?_
    intro acc C H5 s5 m hn hI _ _ _ _ _ q
    exact ⟨m, hn, fun h' sb => ⟨.ref acc, H5, hI h' sb, rfl, q⟩⟩
theorem ps_setC {i : Nat} {x : Str} {pos' spos : Pos} (B : Blk X N sel sc) (hc : X.calm = true) (hN : X.N.Nodup) (hx : X.N[i]? = some x) (hl : X.env.scope.names.lookup x = some .local) (hi : PI X tg iter wi)
    (hg : ∀ b, PG (blk X N sc b) tg g) (ht : ∀ b, PTs (blk X N sc b) ifs ts) (he : ∀ b, PE (blk X N sc b) elt te)
    (hsw : swapsWith (.ListComp elt [⟨tg, iter, ifs, 0⟩] sc pos) (some (.Name x pos')) spos.line X.env = pure true := by rfl)
    (hs : ∀ x, foldedSetIterable iter X.env x = pure x := by intro _; rfl) : PS X (.Assign [.Name x pos'] (.ListComp elt [⟨tg, iter, ifs, 0⟩] sc pos) spos) (tAsg (tLC wi g ts te sel) (gName i)) := by
  intro pins s σ H D I h
  rw [exec_Assign_Name_used _ _ _ _ hsw]
  refine wpAny_bind (wpAny_standAt (wpAny_bind ?_))
  show wpAny _ X.A (do let _ ← comprehension (.ListComp elt [⟨tg, iter, ifs, 0⟩] sc pos) sc X.env _ (newList []) false (eval iter X.env) (some (assign (.Name x pos') X.env))) _ _ s
  refine wpAny_bind (thn (Q := fun _ s' => SP X pins D .next s') (wpAny_comprehension_free (use := some (assign (.Name x pos') X.env)) (cl := clOf X.env sc.names []) rfl hs (closureFor_eq (B.has I.ok)) B.kind (fun y hy hl => ?_) ?_)
    fun _ s' hq => wpAny_pure (wpAny_pure hq))
  · have := List.all_eq_true.mp B.names y hy
    rw [hl] at this
    simpa using this
  · refine comp_run (RR := fun acc C => compPost (model X.prog X.w) X.A X.xe (some (assign (.Name x pos') X.env)) (fun _ s' => SP X pins D .next s') acc C) B hc hi hg ht he I h ?_
    intro acc C H5 s5 m hn hI hC hCl hCc hCz hCp q
    have q : D.nx (σ.set i (some (.ref acc))) H5 := q
    have I5 : Inv X pins σ H5 s5 := hI s5.heap (.refl ..)
    refine wpAny_assign_Name (store_ok2 I5 hN hx (.inl hl) (show RelV (.ref acc) (.ref acc) from rfl) (fun s6 I6 ⟨a, sa, ha⟩ => ?_) (.inr hl))
    have neC : C ≠ a := by
      rcases ha with ha | ha
      · rw [ha]; exact hCl
      · exact fun z => hCc x a ha z.symm
    refine ⟨m, hn.sameBut sa neC, fun h' sb => ?_⟩
    refine ⟨_, H5, ?_, q⟩
    exact I6.turned (t' := s6.toks) (fun b o hb e => (sb.2 b hb).trans e) hC hCl (.inr hCz) hCc hCp
end
end L2
namespace L2
open PySem PySem.Spec PyProof.Rows
noncomputable def excP (C a : Addr) : Heap → Prop := fun h => ∃ o, h.get? a = some o ∧ o.cls = .ref C
end L2
namespace DL
open PySem PySem.Spec PyProof.Rows L2
noncomputable abbrev St := L2.St
inductive D where
  | non | bl (b : Bool) | int (i : Int) | str (x : Str) | tup (xs : List D) | lst (xs : List D)
  | scr (ns : List Int)
  | exc (c : Str)
  | key (r : Str) (n : Int)
  | obj (ks : List (Str × Int)) (vs as bs : List D)
inductive Sl where
  | no | sh (d : D) | ow (ds : List D)
  | nw (xss : List (List D))
  | dc (ks : List Int) (vs : List D)
  | ob (ks : List (Str × Int)) (vs as bs : List D)
noncomputable abbrev DSt := List Sl
inductive DV where
  | val (d : D) | slot (i : Nat) | own (ds : List D)
  | fld (i j : Nat)
inductive Rs (α : Type) where
  | un | er (c : Str) | ok (a : α) (δ : DSt)
noncomputable abbrev DM (α : Type) := DSt → Rs α
noncomputable def DM.ret {α : Type} (a : α) : DM α := fun δ => .ok a δ
noncomputable def DM.bd {α β : Type} (f : DM α) (g : α → DM β) : DM β := fun δ => match f δ with | .un => .un | .er c => .er c | .ok a δ' => g a δ'
noncomputable abbrev Om := Addr → Option Nat
noncomputable def ShL (H : Hp) (Ω : Om) (a : Addr) (xs : List V) : Prop := Rd H a (.lst xs) ∧ Ω a = none
noncomputable def KL (K : PySem.W.Frag) (H : Hp) (a : Addr) (xs : List V) : Prop := (∃ o, H a = some (.frz o (.lst xs))) ∨
  ∃ (o : Obj) (its : Array Value) (n : Nat), K.lookup a = some o ∧ o.cls = .type "list" ∧ o.dict = none ∧ o.data = .seq its n ∧ its.size ≤ sizeLine ∧ Vals xs its.toList
theorem KL.sq {K : PySem.W.Frag} {H : Hp} {a : Addr} {xs : List V} (h : KL K H a xs) : SqL K H a xs := h.elim (fun ⟨o, z⟩ => .inl (.inr ⟨o, z⟩)) .inr
noncomputable def keyL (p : Str × Int) : List Key := [.inr p.1, .inl p.2]
noncomputable def BedAt (K : PySem.W.Frag) (H : Hp) (p a1 a2 a3 : Addr) : Prop := ∃ C dx, PySem.W.nsIn K mainGlobals "Bed" = some (some (.ref C)) ∧ H p = some (.ins C dx [("borne", .ref a1), ("knitted", .ref a2), ("past", .ref a3)])
mutual
noncomputable def Rep (K : PySem.W.Frag) (H : Hp) (Ω : Om) : D → V → Prop
  | .non, v => v = .non
  | .bl b, v => v = .bl b
  | .int i, v => v = .int i
  | .str x, v => v = .str x
  | .tup ds, v => ∃ a vs, v = .ref a ∧ SqT K H a vs ∧ Reps K H Ω ds vs
  | .lst ds, v => ∃ a vs, v = .ref a ∧ ShL H Ω a vs ∧ Reps K H Ω ds vs
  | .scr ns, v => ∃ a, v = .ref a ∧ KL K H a (ns.map V.int)
  | .exc c, v => ∃ a C, v = .ref a ∧ PySem.W.nsIn K mainGlobals c = some (some (.ref C)) ∧ H a = some (.ext (excP C a))
  | .key r n, v => ∃ a, v = .ref a ∧ H a = some (.tup [.str r, .int n])
  | .obj ks vs as bs, v => ∃ p a1 a2 a3 kvs xs ys, v = .ref p ∧ BedAt K H p a1 a2 a3 ∧ (H a1 = some (.dT kvs) ∧ Ω a1 = none) ∧ (H a2 = some (.lst xs) ∧ Ω a2 = none) ∧ (H a3 = some (.lst ys) ∧ Ω a3 = none) ∧ kvs.map (·.1) = ks.map keyL ∧ Reps K H Ω vs (kvs.map (·.2)) ∧ Reps K H Ω as xs ∧ Reps K H Ω bs ys
noncomputable def Reps (K : PySem.W.Frag) (H : Hp) (Ω : Om) : List D → List V → Prop
  | [], vs => vs = []
  | d :: ds, vs => ∃ v r, vs = v :: r ∧ Rep K H Ω d v ∧ Reps K H Ω ds r
end
noncomputable def fixO : HO → Bool
  | .lst _ => false
  | .dK _ => false
  | .dT _ => false
  | _ => true
structure Ext (H : Hp) (Ω : Om) (H' : Hp) (Ω' : Om) : Prop where
  keep : ∀ b o, H b = some o → (fixO o = true ∨ Ω b = none ∨ Ω b = some 0) → H' b = some o
  new : ∀ b, Ω b = none → H b ≠ none → Ω' b = none
  fr : ∀ b, Ω b = some 0 ↔ Ω' b = some 0
  live : ∀ b, H' b = none → H b = none
section
variable {K : PySem.W.Frag} {H H1 H2 H' : Hp} {Ω Ω1 Ω2 Ω' : Om}
theorem Ext.refl : Ext H Ω H Ω := ⟨fun _ _ e _ => e, fun _ e _ => e, fun _ => Iff.rfl, fun _ e => e⟩
theorem Ext.trans (a : Ext H Ω H1 Ω1) (b : Ext H1 Ω1 H2 Ω2) : Ext H Ω H2 Ω2 where
  keep := fun x o e h => b.keep x o (a.keep x o e h) (h.imp_right fun z => z.imp (fun z => a.new x z (by rw [e]; exact Option.some_ne_none _)) fun z => (a.fr x).mp z)
  new := fun x e h => b.new x (a.new x e h) fun z => h (a.live x z)
  fr := fun x => (a.fr x).trans (b.fr x)
  live := fun x e => a.live x (b.live x e)
theorem Rd.ext {a : Addr} {u : HO} (e : Ext H Ω H' Ω') (h : Rd H a u) (hq : fixO u = true ∨ Ω a = none) : Rd H' a u := by
  rcases h with h | ⟨o, h⟩
  · exact .inl (e.keep a _ h (hq.imp_right .inl))
  · exact .inr ⟨o, e.keep a _ h (.inl rfl)⟩
theorem SqT.ext {a : Addr} {xs : List V} (e : Ext H Ω H' Ω') (h : SqT K H a xs) : SqT K H' a xs :=
  h.imp (fun z => Rd.ext e z (.inl rfl)) id
theorem Rd.some {a : Addr} {u : HO} (h : Rd H a u) : H a ≠ none := by
  rcases h with h | ⟨o, h⟩ <;> rw [h] <;> exact Option.some_ne_none _
theorem ShL.ext {a : Addr} {xs : List V} (e : Ext H Ω H' Ω') (h : ShL H Ω a xs) : ShL H' Ω' a xs :=
  ⟨Rd.ext e h.1 (.inr h.2), e.new a h.2 (Rd.some h.1)⟩
theorem BedAt.ext {p a1 a2 a3 : Addr} (e : Ext H Ω H' Ω') (h : BedAt K H p a1 a2 a3) : BedAt K H' p a1 a2 a3 := by
  obtain ⟨C, dx, h1, h2⟩ := h
  exact ⟨C, dx, h1, e.keep p _ h2 (.inl rfl)⟩
theorem Ext.nn {a : Addr} {o : HO} (e : Ext H Ω H' Ω') (h : H a = some o ∧ Ω a = none) : H' a = some o ∧ Ω' a = none := ⟨e.keep a _ h.1 (.inr (.inl h.2)), e.new a h.2 (by rw [h.1]; exact Option.some_ne_none _)⟩
mutual
theorem Rep.ext (e : Ext H Ω H' Ω') : ∀ {d : D} {v : V}, Rep K H Ω d v → Rep K H' Ω' d v
  | .non, _, h => h
  | .bl _, _, h => h
  | .int _, _, h => h
  | .str _, _, h => h
  | .tup _, _, h => by
    obtain ⟨a, vs, e1, e2, e3⟩ := (show ∃ a vs, _ from h)
    exact (show ∃ a vs, _ from ⟨a, vs, e1, SqT.ext e e2, Reps.ext e e3⟩)
  | .lst _, _, h => by
    obtain ⟨a, vs, e1, e2, e3⟩ := (show ∃ a vs, _ from h)
    exact (show ∃ a vs, _ from ⟨a, vs, e1, ShL.ext e e2, Reps.ext e e3⟩)
  | .scr _, _, h => by
    obtain ⟨a, e1, e2⟩ := (show ∃ a, _ from h)
    exact (show ∃ a, _ from ⟨a, e1, e2.imp (fun ⟨o, z⟩ => ⟨o, e.keep a _ z (.inl rfl)⟩) id⟩)
  | .exc _, _, h => by
    obtain ⟨a, C, e1, e2, e3⟩ := (show ∃ a C, _ from h)
    exact (show ∃ a C, _ from ⟨a, C, e1, e2, e.keep a _ e3 (.inl rfl)⟩)
  | .key _ _, _, h => by
    obtain ⟨a, e1, e2⟩ := (show ∃ a, _ from h)
    exact (show ∃ a, _ from ⟨a, e1, e.keep a _ e2 (.inl rfl)⟩)
  | .obj _ _ _ _, _, h => by
    obtain ⟨p, a1, a2, a3, kvs, xs, ys, e1, e2, e3, e4, e5, e6, e7, e8, e9⟩ := (show ∃ p a1 a2 a3 kvs xs ys, _ from h)
    exact (show ∃ p a1 a2 a3 kvs xs ys, _ from ⟨p, a1, a2, a3, kvs, xs, ys, e1, e2.ext e, e.nn e3, e.nn e4, e.nn e5, e6, Reps.ext e e7, Reps.ext e e8, Reps.ext e e9⟩)
theorem Reps.ext (e : Ext H Ω H' Ω') : ∀ {ds : List D} {vs : List V}, Reps K H Ω ds vs → Reps K H' Ω' ds vs
  | [], _, h => h
  | _ :: _, _, h => by
    obtain ⟨v, r, e1, e2, e3⟩ := (show ∃ v r, _ from h)
    exact (show ∃ v r, _ from ⟨v, r, e1, Rep.ext e e2, Reps.ext e e3⟩)
end
theorem Reps.length : ∀ {ds : List D} {vs : List V}, Reps K H Ω ds vs → ds.length = vs.length
  | [], _, h => by cases (show _ = [] from h); rfl
  | _ :: _, _, h => by
    obtain ⟨v, r, e1, e2, e3⟩ := (show ∃ v r, _ from h)
    subst e1
    rw [List.length_cons, List.length_cons, Reps.length e3]
theorem Reps.nil : Reps K H Ω [] [] := rfl
theorem Reps.cons {d : D} {ds : List D} {v : V} {vs : List V} (h : Rep K H Ω d v) (r : Reps K H Ω ds vs) : Reps K H Ω (d :: ds) (v :: vs) := ⟨v, vs, rfl, h, r⟩
theorem Reps.get : ∀ {ds : List D} {vs : List V} {i : Nat} {d : D}, Reps K H Ω ds vs → ds[i]? = some d → ∃ v, vs[i]? = some v ∧ Rep K H Ω d v
  | [], _, _, _, _, e => by simp at e
  | d :: ds, _, 0, d', h, e => by
    obtain ⟨v, r, e1, e2, e3⟩ := (show ∃ v r, _ from h)
    subst e1
    have : d = d' := by simpa using e
    subst this
    exact ⟨v, rfl, e2⟩
  | _ :: ds, _, i + 1, d', h, e => by
    obtain ⟨v, r, e1, e2, e3⟩ := (show ∃ v r, _ from h)
    subst e1
    obtain ⟨w, q1, q2⟩ := Reps.get (i := i) e3 (by simpa using e)
    exact ⟨w, by simpa using q1, q2⟩
theorem Reps.append : ∀ {ds es : List D} {vs ws : List V}, Reps K H Ω ds vs → Reps K H Ω es ws → Reps K H Ω (ds ++ es) (vs ++ ws)
  | [], _, _, _, h, q => by cases (show _ = [] from h); exact q
  | _ :: _, _, _, _, h, q => by
    obtain ⟨v, r, e1, e2, e3⟩ := (show ∃ v r, _ from h)
    subst e1
    exact .cons e2 (Reps.append e3 q)
theorem Reps.drop : ∀ {ds : List D} {vs : List V} (n : Nat), Reps K H Ω ds vs → Reps K H Ω (ds.drop n) (vs.drop n)
  | _, _, 0, h => h
  | [], _, _ + 1, h => by cases (show _ = [] from h); exact .nil
  | _ :: _, _, n + 1, h => by
    obtain ⟨v, r, e1, e2, e3⟩ := (show ∃ v r, _ from h)
    subst e1
    exact Reps.drop n e3
theorem Reps.take : ∀ {ds : List D} {vs : List V} (n : Nat), Reps K H Ω ds vs → Reps K H Ω (ds.take n) (vs.take n)
  | _, _, 0, _ => .nil
  | [], _, _ + 1, h => by cases (show _ = [] from h); exact .nil
  | _ :: _, _, n + 1, h => by
    obtain ⟨v, r, e1, e2, e3⟩ := (show ∃ v r, _ from h)
    subst e1
    exact .cons e2 (Reps.take n e3)
theorem Reps.reverse : ∀ {ds : List D} {vs : List V}, Reps K H Ω ds vs → Reps K H Ω ds.reverse vs.reverse
  | [], _, h => by cases (show _ = [] from h); exact .nil
  | _ :: _, _, h => by
    obtain ⟨v, r, e1, e2, e3⟩ := (show ∃ v r, _ from h)
    subst e1
    rw [List.reverse_cons, List.reverse_cons]
    exact (Reps.reverse e3).append (.cons e2 .nil)
theorem Reps.set {d : D} {v : V} (h1 : Rep K H Ω d v) : ∀ {ds : List D} {vs : List V} (n : Nat), Reps K H Ω ds vs → Reps K H Ω (ds.set n d) (vs.set n v)
  | [], _, _, h => by cases (show _ = [] from h); exact .nil
  | _ :: _, _, 0, h => by
    obtain ⟨v, r, e1, e2, e3⟩ := (show ∃ v r, _ from h)
    subst e1
    exact .cons h1 e3
  | _ :: _, _, n + 1, h => by
    obtain ⟨v, r, e1, e2, e3⟩ := (show ∃ v r, _ from h)
    subst e1
    exact .cons e2 (Reps.set h1 n e3)
end
noncomputable def Nst (K : PySem.W.Frag) (H : Hp) (Ω : Om) (k : Nat) (xss : List (List D)) (bs : List Addr) : Prop := ∀ (j : Nat) b xs, bs[j]? = some b → xss[j]? = some xs → ∃ ws, H b = some (.lst ws) ∧ Ω b = some k ∧ Reps K H Ω xs ws
noncomputable def ObAt (K : PySem.W.Frag) (H : Hp) (Ω : Om) (k : Nat) (p : Addr) (ks : List (Str × Int)) (vs as bs : List D) : Prop := ∃ a1 a2 a3 kvs xs ys, BedAt K H p a1 a2 a3 ∧ (H a1 = some (.dT kvs) ∧ Ω a1 = some k) ∧ (H a2 = some (.lst xs) ∧ Ω a2 = some k) ∧ (H a3 = some (.lst ys) ∧ Ω a3 = some k) ∧ a2 ≠ a3 ∧ kvs.map (·.1) = ks.map keyL ∧ Reps K H Ω vs (kvs.map (·.2)) ∧ Reps K H Ω as xs ∧ Reps K H Ω bs ys
noncomputable def RepSl (K : PySem.W.Frag) (H : Hp) (Ω : Om) (i : Nat) : Sl → Option V → Prop
  | .no, _ => True
  | .sh d, o => ∃ v, o = some v ∧ Rep K H Ω d v
  | .ow ds, o => ∃ a vs, o = some (.ref a) ∧ H a = some (.lst vs) ∧ Ω a = some (i + 2) ∧ Reps K H Ω ds vs
  | .nw xss, o => ∃ (a : Addr) (bs : List Addr), o = some (.ref a) ∧ H a = some (.lst (bs.map V.ref)) ∧ Ω a = some (i + 2) ∧ (a :: bs).Nodup ∧ bs.length = xss.length ∧ Nst K H Ω (i + 2) xss bs
  | .dc ks vs, o => ∃ (a : Addr) (kvs : List (Key × V)), o = some (.ref a) ∧ H a = some (.dK kvs) ∧ Ω a = some (i + 2) ∧ kvs.map (·.1) = ks.map Sum.inl ∧ Reps K H Ω vs (kvs.map (·.2))
  | .ob ks vs as bs, o => ∃ p, o = some (.ref p) ∧ ObAt K H Ω (i + 2) p ks vs as bs
structure RepS (K : PySem.W.Frag) (H : Hp) (Ω : Om) (σ : St) (δ : DSt) : Prop where
  len : δ.length = σ.length
  sl : ∀ (i : Nat) s, δ[i]? = some s → RepSl K H Ω i s (σ[i]?).join
  trk : ∀ a k, Ω a = some k → ∃ u, H a = some u ∧ fixO u = false
noncomputable def RepDV (K : PySem.W.Frag) (H : Hp) (Ω : Om) (σ : St) : DV → V → Prop
  | .val d, v => Rep K H Ω d v
  | .slot i, v => σ[i]? = some (some v)
  | .own ds, v => ∃ a vs, v = .ref a ∧ H a = some (.lst vs) ∧ Ω a = some 1 ∧ Reps K H Ω ds vs
  | .fld i j, v => ∃ p a1 a2 a3, σ[i]? = some (some (.ref p)) ∧ BedAt K H p a1 a2 a3 ∧ ((j = 1 ∧ v = .ref a2) ∨ (j = 2 ∧ v = .ref a3))
noncomputable def Trk (H : Hp) (Ω : Om) : Prop := ∀ a k, Ω a = some k → ∃ u, H a = some u ∧ fixO u = false
noncomputable def Wg {α : Type} (E : Str → Hp → Prop) (H : Hp) (Ω : Om) (P : α → DSt → Hp → Om → Prop) (r : Rs α) : Prop := match r with
  | .un => False
  | .er c => ∀ H' Ω', Ext H Ω H' Ω' → Trk H' Ω' → E c H'
  | .ok a δ' => ∀ H' Ω', Ext H Ω H' Ω' → P a δ' H' Ω'
noncomputable def RepDVs (K : PySem.W.Frag) (H : Hp) (Ω : Om) (σ : St) : List DV → List V → Prop
  | [], vs => vs = []
  | a :: as, vs => ∃ v r, vs = v :: r ∧ RepDV K H Ω σ a v ∧ RepDVs K H Ω σ as r
noncomputable def DV.st : DV → Bool
  | .own _ => false
  | _ => true
noncomputable abbrev PV (K : PySem.W.Frag) (σ : St) (Q : VK) : DV → DSt → Hp → Om → Prop := fun a δ' H' Ω' => RepS K H' Ω' σ δ' → ∀ v, RepDV K H' Ω' σ a v → Q v H'
noncomputable abbrev PB (K : PySem.W.Frag) (σ : St) (Q : Bool → Hp → Prop) : Bool → DSt → Hp → Om → Prop := fun b δ' H' Ω' => RepS K H' Ω' σ δ' → Q b H'
noncomputable abbrev PVs (K : PySem.W.Frag) (σ : St) (Q : List V → Hp → Prop) : List DV → DSt → Hp → Om → Prop := fun as δ' H' Ω' => RepS K H' Ω' σ δ' → ∀ vs, RepDVs K H' Ω' σ as vs → (∀ a ∈ as, a.st = true) → Q vs H'
inductive Fl where
  | nx | bk | ct | rt (d : D) | rto (ds : List D)
noncomputable def FlQ (K : PySem.W.Frag) (H : Hp) (Ω : Om) (σ : St) (B : Ends) : Fl → Prop
  | .nx => B.nx σ H
  | .bk => B.bk σ H
  | .ct => B.ct σ H
  | .rt d => ∀ v, Rep K H Ω d v → B.rt v H
  | .rto ds => ∀ v, RepDV K H Ω σ (.own ds) v → B.rt v H
noncomputable abbrev PF (K : PySem.W.Frag) (mp : List Nat) (σ : St) (B : Ends) : Fl → DSt → Hp → Om → Prop := fun fl δ' H' Ω' => ∀ σ', RepS K H' Ω' σ' δ' → (∀ j ∈ mp, σ'[j]? = σ[j]?) → FlQ K H' Ω' σ' B fl
noncomputable def DE (K : PySem.W.Frag) (E : Str → Hp → Prop) (te : TE) (f : DM DV) : Prop := ∀ σ H δ Ω, RepS K H Ω σ δ → ∀ Q, Wg E H Ω (PV K σ Q) (f δ) → te σ H Q
noncomputable def DT (K : PySem.W.Frag) (E : Str → Hp → Prop) (tt : TT) (f : DM Bool) : Prop := ∀ σ H δ Ω, RepS K H Ω σ δ → ∀ Q, Wg E H Ω (PB K σ Q) (f δ) → tt σ H Q
noncomputable def DA (K : PySem.W.Frag) (E : Str → Hp → Prop) (ta : TA) (f : DM (List DV)) : Prop := ∀ σ H δ Ω, RepS K H Ω σ δ → ∀ Q, Wg E H Ω (PVs K σ Q) (f δ) → ta σ H Q
noncomputable def DS (K : PySem.W.Frag) (E : Str → Hp → Prop) (mp : List Nat) (ts : TS) (f : DM Fl) : Prop := ∀ σ H δ Ω, RepS K H Ω σ δ → ∀ B, Wg E H Ω (PF K mp σ B) (f δ) → ts B σ H
section
variable {K : PySem.W.Frag} {E : Str → Hp → Prop} {H H1 H2 H' : Hp} {Ω Ω1 Ω2 Ω' : Om} {σ : St} {δ : DSt}
theorem Wg.ext {α : Type} {P : α → DSt → Hp → Om → Prop} {r : Rs α} (h : Wg E H Ω P r) (e : Ext H Ω H' Ω') : Wg E H' Ω' P r := by
  cases r with
  | un => exact h
  | er c => exact fun H2 Ω2 e2 => h H2 Ω2 (e.trans e2)
  | ok a δ' => exact fun H2 Ω2 e2 => h H2 Ω2 (e.trans e2)
theorem Wg.imp {α : Type} {P P' : α → DSt → Hp → Om → Prop} {r : Rs α} (h : Wg E H Ω P r) (hp : ∀ a δ' H' Ω', Ext H Ω H' Ω' → P a δ' H' Ω' → P' a δ' H' Ω') : Wg E H Ω P' r := by
  cases r with
  | un => exact h
  | er c => exact h
  | ok a δ' => exact fun H2 Ω2 e2 => hp _ _ _ _ e2 (h H2 Ω2 e2)
theorem Wg.bd {α β : Type} {f : DM α} {g : α → DM β} {P : β → DSt → Hp → Om → Prop} (h : Wg E H Ω P (f.bd g δ)) {P1 : α → DSt → Hp → Om → Prop}
    (k : ∀ a δ' H' Ω', Ext H Ω H' Ω' → Wg E H' Ω' P (g a δ') → P1 a δ' H' Ω') : Wg E H Ω P1 (f δ) := by
  unfold DM.bd at h
  cases e : f δ with
  | un => rw [e] at h; exact h
  | er c => rw [e] at h; exact h
  | ok a δ' => rw [e] at h; exact fun H' Ω' ex => k a δ' H' Ω' ex (Wg.ext h ex)
theorem RepDV.ext {a : DV} {v : V} (h : RepDV K H Ω σ a v) (ha : a.st = true) (e : Ext H Ω H' Ω') : RepDV K H' Ω' σ a v := by
  cases a with
  | val d => exact Rep.ext e h
  | slot i => exact h
  | own ds => cases ha
  | fld i j =>
    obtain ⟨p, a1, a2, a3, e1, e2, e3⟩ := h
    exact ⟨p, a1, a2, a3, e1, e2.ext e, e3⟩
theorem RepDVs.ext : ∀ {as : List DV} {vs : List V}, RepDVs K H Ω σ as vs → (∀ a ∈ as, a.st = true) → Ext H Ω H' Ω' → RepDVs K H' Ω' σ as vs
  | [], _, h, _, _ => h
  | _ :: _, _, h, ha, e => by
    obtain ⟨v, r, e1, e2, e3⟩ := h
    exact ⟨v, r, e1, e2.ext (ha _ List.mem_cons_self) e, e3.ext (fun a q => ha a (List.mem_cons_of_mem _ q)) e⟩
theorem Wg.now {d : DV} {v : V} {Q : VK} (h : Wg E H Ω (PV K σ Q) (.ok d δ)) (R : RepS K H Ω σ δ) (r : RepDV K H Ω σ d v) : Q v H := h H Ω .refl R v r
theorem Wg.nowB {b : Bool} {Q : Bool → Hp → Prop} (h : Wg E H Ω (PB K σ Q) (.ok b δ)) (R : RepS K H Ω σ δ) : Q b H := h H Ω .refl R
noncomputable def own1 (Ω : Om) (p : Addr) : Om := fun b => if b = p then some 1 else Ω b
noncomputable def freed (Ω : Om) (p : Addr) : Om := fun b => if b = p then none else Ω b
theorem Ext.alloc {p : Addr} {o : HO} (hp : H p = none) (trk : ∀ a k, Ω a = some k → ∃ u, H a = some u ∧ fixO u = false) : Ext H Ω (upd H p o) Ω where
  keep := fun b o' e _ => by rw [upd_ne (ne_of_none e hp)]; exact e
  new := fun _ e _ => e
  fr := fun _ => Iff.rfl
  live := fun b e => by
    unfold upd at e
    split at e
    · cases e
    · exact e
theorem Ext.alloc1 {p : Addr} {xs : List V} (hp : H p = none) (trk : ∀ a k, Ω a = some k → ∃ u, H a = some u ∧ fixO u = false) : Ext H Ω (upd H p (.lst xs)) (own1 Ω p) where
  keep := fun b o' e _ => by rw [upd_ne (ne_of_none e hp)]; exact e
  new := fun b e h => by
    unfold own1
    rw [if_neg (fun z => h (by rw [z]; exact hp))]
    exact e
  fr := fun b => by
    unfold own1
    split
    · rename_i z
      subst z
      constructor
      · intro q
        obtain ⟨vs, e, _⟩ := trk _ _ q
        rw [hp] at e; cases e
      · intro q; cases q
    · exact Iff.rfl
  live := fun b e => by
    unfold upd at e
    split at e
    · cases e
    · exact e
theorem Ext.free {p : Addr} {k : Nat} (hp : Ω p = some (k + 1)) : Ext H Ω H (freed Ω p) where
  keep := fun b o' e _ => e
  new := fun b e h => by unfold freed; split <;> first | rfl | exact e
  fr := fun b => by
    unfold freed
    split
    · rename_i z
      subst z
      rw [hp]
      constructor <;> intro q <;> cases q
    · exact Iff.rfl
  live := fun b e => e
theorem ShL.less {a : Addr} {xs : List V} (h : ShL H Ω a xs) (hl : ∀ b, Ω b = none → Ω' b = none) : ShL H Ω' a xs := ⟨h.1, hl a h.2⟩
mutual
theorem Rep.less (hl : ∀ b, Ω b = none → Ω' b = none) : ∀ {d : D} {v : V}, Rep K H Ω d v → Rep K H Ω' d v
  | .non, _, h => h
  | .bl _, _, h => h
  | .int _, _, h => h
  | .str _, _, h => h
  | .tup _, _, h => by
    obtain ⟨a, vs, e1, e2, e3⟩ := (show ∃ a vs, _ from h)
    exact (show ∃ a vs, _ from ⟨a, vs, e1, e2, Reps.less hl e3⟩)
  | .lst _, _, h => by
    obtain ⟨a, vs, e1, e2, e3⟩ := (show ∃ a vs, _ from h)
    exact (show ∃ a vs, _ from ⟨a, vs, e1, e2.less hl, Reps.less hl e3⟩)
  | .scr _, _, h => h
  | .exc _, _, h => h
  | .key _ _, _, h => h
  | .obj _ _ _ _, _, h => by
    obtain ⟨p, a1, a2, a3, kvs, xs, ys, e1, e2, e3, e4, e5, e6, e7, e8, e9⟩ := (show ∃ p a1 a2 a3 kvs xs ys, _ from h)
    exact (show ∃ p a1 a2 a3 kvs xs ys, _ from ⟨p, a1, a2, a3, kvs, xs, ys, e1, e2, ⟨e3.1, hl _ e3.2⟩, ⟨e4.1, hl _ e4.2⟩, ⟨e5.1, hl _ e5.2⟩, e6, Reps.less hl e7, Reps.less hl e8, Reps.less hl e9⟩)
theorem Reps.less (hl : ∀ b, Ω b = none → Ω' b = none) : ∀ {ds : List D} {vs : List V}, Reps K H Ω ds vs → Reps K H Ω' ds vs
  | [], _, h => h
  | _ :: _, _, h => by
    obtain ⟨v, r, e1, e2, e3⟩ := (show ∃ v r, _ from h)
    exact (show ∃ v r, _ from ⟨v, r, e1, Rep.less hl e2, Reps.less hl e3⟩)
end
theorem freed_less {p : Addr} : ∀ b, Ω b = none → freed Ω p b = none := fun b e => by unfold freed; split <;> first | rfl | exact e
theorem keep_fix {p b : Addr} {o u : HO} (hl : ∃ vs, H p = some vs ∧ fixO vs = false) (q : H b = some u) (f : fixO u = true) : upd H p o b = some u := by
  rw [upd_ne]
  · exact q
  · rintro rfl
    obtain ⟨v, e, g⟩ := hl
    rw [e] at q
    cases q
    rw [f] at g
    cases g
theorem RepSl.mv {i : Nat} {s : Sl} {o : Option V} (h : RepSl K H Ω i s o) (h1 : ∀ d v, Rep K H Ω d v → Rep K H' Ω' d v) (h2 : ∀ ds vs, Reps K H Ω ds vs → Reps K H' Ω' ds vs)
    (hk : ∀ b u, Ω b = some (i + 2) → H b = some u → H' b = some u ∧ Ω' b = some (i + 2)) (hf : ∀ b u, H b = some u → fixO u = true → H' b = some u := by first | exact (fun _ _ q _ => q) | exact (fun _ _ q f => keep_fix (by assumption) q f) | exact (fun b u q f => Ext.keep (by assumption) b u q (.inl f))) : RepSl K H' Ω' i s o := by
  cases s with
  | no => trivial
  | sh d => obtain ⟨v, e1, e2⟩ := h; exact ⟨v, e1, h1 _ _ e2⟩
  | ow ds =>
    obtain ⟨a, vs, e1, e2, e3, e4⟩ := h
    obtain ⟨q1, q2⟩ := hk a _ e3 e2
    exact ⟨a, vs, e1, q1, q2, h2 _ _ e4⟩
  | nw xss =>
    obtain ⟨a, bs, e1, e2, e3, e4, e5, e6⟩ := h
    obtain ⟨q1, q2⟩ := hk a _ e3 e2
    refine ⟨a, bs, e1, q1, q2, e4, e5, fun j b xs z1 z2 => ?_⟩
    obtain ⟨ws, w1, w2, w3⟩ := e6 j b xs z1 z2
    obtain ⟨y1, y2⟩ := hk b _ w2 w1
    exact ⟨ws, y1, y2, h2 _ _ w3⟩
  | dc ks vs =>
    obtain ⟨a, kvs, e1, e2, e3, e4, e5⟩ := h
    obtain ⟨q1, q2⟩ := hk a _ e3 e2
    exact ⟨a, kvs, e1, q1, q2, e4, h2 _ _ e5⟩
  | ob ks vs as bs =>
    obtain ⟨p, e0, a1, a2, a3, kvs, xs, ys, ⟨C, dx, c1, c2⟩, e3, e4, e5, ne, e6, e7, e8, e9⟩ := h
    exact ⟨p, e0, a1, a2, a3, kvs, xs, ys, ⟨C, dx, c1, hf _ _ c2 rfl⟩, hk _ _ e3.2 e3.1, hk _ _ e4.2 e4.1, hk _ _ e5.2 e5.1, ne, e6, h2 _ _ e7, h2 _ _ e8, h2 _ _ e9⟩
theorem RepSl.ext {i : Nat} {s : Sl} {o : Option V} (h : RepSl K H Ω i s o) (e : Ext H Ω H' Ω') (hk : ∀ b u, Ω b = some (i + 2) → H b = some u → H' b = some u ∧ Ω' b = some (i + 2)) : RepSl K H' Ω' i s o := h.mv (fun _ _ => Rep.ext e) (fun _ _ => Reps.ext e) hk fun b u q f => e.keep b u q (.inl f)
theorem RepS.ext (R : RepS K H Ω σ δ) (e : Ext H Ω H' Ω') (hk : ∀ b k u, Ω b = some (k + 2) → H b = some u → H' b = some u ∧ Ω' b = some (k + 2)) (ht : ∀ a k, Ω' a = some k → ∃ u, H' a = some u ∧ fixO u = false) : RepS K H' Ω' σ δ :=
  ⟨R.len, fun i s h => (R.sl i s h).ext e fun b vs q1 q2 => hk b i vs q1 q2, ht⟩
theorem RepS.alloc {p : Addr} {o : HO} (R : RepS K H Ω σ δ) (hp : H p = none) : RepS K (upd H p o) Ω σ δ :=
  R.ext (.alloc hp R.trk) (fun b k vs q1 q2 => ⟨by rw [upd_ne (ne_of_none q2 hp)]; exact q2, q1⟩) fun a k q => by
    obtain ⟨vs, e, f⟩ := R.trk a k q
    exact ⟨vs, by rw [upd_ne (ne_of_none e hp)]; exact e, f⟩
theorem RepS.alloc1 {p : Addr} {xs : List V} (R : RepS K H Ω σ δ) (hp : H p = none) : RepS K (upd H p (.lst xs)) (own1 Ω p) σ δ :=
  R.ext (.alloc1 hp R.trk) (fun b k vs q1 q2 => by
    have : b ≠ p := ne_of_none q2 hp
    exact ⟨by rw [upd_ne this]; exact q2, by unfold own1; rw [if_neg this]; exact q1⟩) fun a k q => by
    by_cases h : a = p
    · subst h; exact ⟨_, upd_same, rfl⟩
    · unfold own1 at q
      rw [if_neg h] at q
      obtain ⟨vs, e, f⟩ := R.trk a k q
      exact ⟨vs, by rw [upd_ne h]; exact e, f⟩
theorem RepS.free1 {p : Addr} (R : RepS K H Ω σ δ) (hp : Ω p = some 1) : RepS K H (freed Ω p) σ δ :=
  R.ext (.free (k := 0) hp) (fun b k vs q1 q2 => ⟨q2, by
    unfold freed
    rw [if_neg]
    · exact q1
    · rintro rfl; rw [hp] at q1; cases q1⟩) fun a k q => by
    unfold freed at q
    split at q
    · cases q
    · exact R.trk a k q
theorem Wg.alloc1 {p : Addr} {ds : List D} {xs : List V} {Q : VK} (h : Wg E H Ω (PV K σ Q) (.ok (.own ds) δ)) (R : RepS K H Ω σ δ) (hp : H p = none) (r : Reps K H Ω ds xs) : Q (.ref p) (upd H p (.lst xs)) :=
  h _ (own1 Ω p) (.alloc1 hp R.trk) (R.alloc1 hp) _ ⟨p, xs, rfl, upd_same, by unfold own1; rw [if_pos rfl], r.ext (.alloc1 hp R.trk)⟩
theorem Wg.allocT {p : Addr} {ds : List D} {xs : List V} {Q : VK} (h : Wg E H Ω (PV K σ Q) (.ok (.val (.tup ds)) δ)) (R : RepS K H Ω σ δ) (hp : H p = none) (r : Reps K H Ω ds xs) : Q (.ref p) (upd H p (.tup xs)) :=
  h _ Ω (.alloc hp R.trk) (R.alloc hp) _ (show ∃ a vs, _ from ⟨p, xs, rfl, SqT.of upd_same, r.ext (.alloc hp R.trk)⟩)
noncomputable def norm : DV → DV
  | .own ds => .val (.lst ds)
  | a => a
noncomputable def fN (f : DM DV) : DM DV := f.bd fun a => .ret (norm a)
theorem norm_st (a : DV) : (norm a).st = true := by cases a <;> rfl
theorem RepDV.norm {a : DV} {v : V} (R : RepS K H Ω σ δ) (h : RepDV K H Ω σ a v) : ∃ Ω', RepS K H Ω' σ δ ∧ RepDV K H Ω' σ (norm a) v ∧ Ext H Ω H Ω' := by
  cases a with
  | val d => exact ⟨Ω, R, h, .refl⟩
  | slot i => exact ⟨Ω, R, h, .refl⟩
  | fld i j => exact ⟨Ω, R, h, .refl⟩
  | own ds =>
    obtain ⟨a, vs, e1, e2, e3, e4⟩ := h
    refine ⟨freed Ω a, R.free1 e3, (show ∃ a vs, _ from ⟨a, vs, e1, .intro (.inl e2) (by unfold freed; rw [if_pos rfl]), e4.less freed_less⟩), .free (k := 0) e3⟩
theorem DE.use {β : Type} {ta : TE} {f : DM DV} {g : DV → DM β} {P : β → DSt → Hp → Om → Prop} {T : V → Hp → Prop} (ha : DE K E ta f) (R : RepS K H Ω σ δ) (h : Wg E H Ω P ((fN f).bd g δ))
    (k : ∀ a x δ' H' Ω', Ext H Ω H' Ω' → a.st = true → RepS K H' Ω' σ δ' → RepDV K H' Ω' σ a x → Wg E H' Ω' P (g a δ') → T x H') : ta σ H T := by
  refine ha σ H δ Ω R T (Wg.bd (f := f) (g := fun a => g (norm a)) (P := P) ?_ fun a δ' H' Ω' ex h' R' v rv => ?_)
  · unfold fN DM.bd DM.ret at h
    unfold DM.bd
    cases e : f δ with
    | un => rw [e] at h; exact h
    | er c => rw [e] at h; exact h
    | ok a δ' => rw [e] at h; exact h
  · obtain ⟨Ω2, R2, r2, x2⟩ := rv.norm R'
    exact k (norm a) v δ' H' Ω2 (ex.trans x2) (norm_st a) R2 r2 (Wg.ext h' x2)
theorem DE.norm {ta : TE} {f : DM DV} (ha : DE K E ta f) : DE K E ta (fN f) := by
  intro σ H δ Ω R Q h
  refine ha.use (g := .ret) R (P := PV K σ Q) ?_ fun a x δ' H' Ω' _ _ R' r' h' => h'.now R' r'
  unfold fN DM.bd DM.ret at h ⊢
  cases e : f δ with
  | un => rw [e] at h; exact h
  | er c => rw [e] at h; exact h
  | ok a δ' => rw [e] at h; exact h
theorem DT.use {β : Type} {ta : TT} {f : DM Bool} {g : Bool → DM β} {P : β → DSt → Hp → Om → Prop} {T : Bool → Hp → Prop} (ha : DT K E ta f) (R : RepS K H Ω σ δ) (h : Wg E H Ω P (f.bd g δ))
    (k : ∀ b δ' H' Ω', Ext H Ω H' Ω' → RepS K H' Ω' σ δ' → Wg E H' Ω' P (g b δ') → T b H') : ta σ H T :=
  ha σ H δ Ω R T (Wg.bd h fun b δ' H' Ω' ex h' R' => k b δ' H' Ω' ex R' h')
theorem DA.use {β : Type} {ta : TA} {f : DM (List DV)} {g : List DV → DM β} {P : β → DSt → Hp → Om → Prop} {T : List V → Hp → Prop} (ha : DA K E ta f) (R : RepS K H Ω σ δ) (h : Wg E H Ω P (f.bd g δ))
    (k : ∀ as vs δ' H' Ω', Ext H Ω H' Ω' → (∀ a ∈ as, a.st = true) → RepS K H' Ω' σ δ' → RepDVs K H' Ω' σ as vs → Wg E H' Ω' P (g as δ') → T vs H') : ta σ H T :=
  ha σ H δ Ω R T (Wg.bd h fun as δ' H' Ω' ex h' R' vs rv hs => k as vs δ' H' Ω' ex hs R' rv h')
noncomputable def RepB (K : PySem.W.Frag) (H : Hp) (Ω : Om) : D → V → Prop
  | .lst ds, v => ∃ a vs, v = .ref a ∧ Rd H a (.lst vs) ∧ Reps K H Ω ds vs
  | .obj ks vs as bs, v => ∃ p a1 a2 a3 kvs xs ys, v = .ref p ∧ BedAt K H p a1 a2 a3 ∧ H a1 = some (.dT kvs) ∧ H a2 = some (.lst xs) ∧ H a3 = some (.lst ys) ∧ kvs.map (·.1) = ks.map keyL ∧ Reps K H Ω vs (kvs.map (·.2)) ∧ Reps K H Ω as xs ∧ Reps K H Ω bs ys
  | d, v => Rep K H Ω d v
theorem Rep.b {d : D} {v : V} (h : Rep K H Ω d v) : RepB K H Ω d v := by
  cases d with
  | lst ds => obtain ⟨a, vs, e1, e2, e3⟩ := (show ∃ a vs, _ from h); exact ⟨a, vs, e1, e2.1, e3⟩
  | obj ks vs as bs =>
    obtain ⟨p, a1, a2, a3, kvs, xs, ys, e1, e2, e3, e4, e5, e6, e7, e8, e9⟩ := (show ∃ p a1 a2 a3 kvs xs ys, _ from h)
    exact ⟨p, a1, a2, a3, kvs, xs, ys, e1, e2, e3.1, e4.1, e5.1, e6, e7, e8, e9⟩
  | _ => exact h
noncomputable def partO (s : Sl) (j : Nat) : Option (List D) := match s, j with
  | .ob _ _ as _, 1 => some as
  | .ob _ _ _ bs, 2 => some bs
  | .sh (.obj _ _ as _), 1 => some as
  | .sh (.obj _ _ _ bs), 2 => some bs
  | _, _ => none
noncomputable def res (δ : DSt) : DV → Option D
  | .val d => some d
  | .own ds => some (.lst ds)
  | .slot i => match δ[i]? with | some (.sh d) => some d | some (.ow ds) => some (.lst ds) | some (.ob ks vs as bs) => some (.obj ks vs as bs) | _ => none
  | .fld i j => match δ[i]? with | some s => (partO s j).map .lst | none => none
theorem BedAt.inj {p a1 a2 a3 b1 b2 b3 : Addr} (h : BedAt K H p a1 a2 a3) (q : BedAt K H p b1 b2 b3) : a1 = b1 ∧ a2 = b2 ∧ a3 = b3 := by
  obtain ⟨C, dx, _, h2⟩ := h
  obtain ⟨C', dx', _, q2⟩ := q
  rw [h2] at q2
  cases q2
  exact ⟨rfl, rfl, rfl⟩
theorem RepDV.res {a : DV} {x : V} {d : D} (R : RepS K H Ω σ δ) (h : RepDV K H Ω σ a x) (e : res δ a = some d) : RepB K H Ω d x := by
  cases a with
  | val d' => cases e; exact Rep.b h
  | own ds => cases e; obtain ⟨a, vs, e1, e2, e3, e4⟩ := h; exact ⟨a, vs, e1, .inl e2, e4⟩
  | slot i =>
    have h : σ[i]? = some (some x) := h
    unfold DL.res at e
    simp only at e
    split at e
    · rename_i d' hd
      cases e
      obtain ⟨v, e1, e2⟩ := R.sl i _ hd
      rw [h] at e1
      cases e1
      exact e2.b
    · rename_i ds hd
      cases e
      obtain ⟨a, vs, e1, e2, e3, e4⟩ := R.sl i _ hd
      rw [h] at e1
      cases e1
      exact ⟨a, vs, rfl, .inl e2, e4⟩
    · rename_i ks vs as bs hd
      cases e
      obtain ⟨p, e0, a1, a2, a3, kvs, xs, ys, e2, e3, e4, e5, ne, e6, e7, e8, e9⟩ := R.sl i _ hd
      rw [h] at e0
      cases e0
      exact ⟨p, a1, a2, a3, kvs, xs, ys, rfl, e2, e3.1, e4.1, e5.1, e6, e7, e8, e9⟩
    · cases e
  | fld i j =>
    obtain ⟨p, b1, b2, b3, h1, h2, h3⟩ := h
    unfold DL.res at e
    simp only at e
    split at e
    · rename_i s hd
      have sl := R.sl i _ hd
      rw [h1] at sl
      cases s with
      | ob ks vs as bs =>
        obtain ⟨p', e0, a1, a2, a3, kvs, xs, ys, e2, e3, e4, e5, ne, e6, e7, e8, e9⟩ := sl
        cases e0
        obtain ⟨rfl, rfl, rfl⟩ := h2.inj e2
        rcases h3 with ⟨rfl, rfl⟩ | ⟨rfl, rfl⟩
        · cases e; exact ⟨b2, xs, rfl, .inl e4.1, e8⟩
        · cases e; exact ⟨b3, ys, rfl, .inl e5.1, e9⟩
      | sh d =>
        cases d with
        | obj ks vs as bs =>
          obtain ⟨v, e0, hv⟩ := sl
          cases e0
          obtain ⟨p', a1, a2, a3, kvs, xs, ys, e1, e2, e3, e4, e5, e6, e7, e8, e9⟩ := (show ∃ p a1 a2 a3 kvs xs ys, _ from hv)
          cases e1
          obtain ⟨rfl, rfl, rfl⟩ := h2.inj e2
          rcases h3 with ⟨rfl, rfl⟩ | ⟨rfl, rfl⟩
          · cases e; exact ⟨b2, xs, rfl, .inl e4.1, e8⟩
          · cases e; exact ⟨b3, ys, rfl, .inl e5.1, e9⟩
        | _ => simp [partO] at e
      | _ => simp [partO] at e
    · cases e
end
end DL
namespace DL
open PySem PySem.Spec PyProof.Rows L2
noncomputable def PED (X : Cx) (E : Str → Hp → Prop) (e : Expr) (f : DM DV) : Prop := ∃ te, PE X e te ∧ DE X.K E te f
noncomputable def PTD (X : Cx) (E : Str → Hp → Prop) (e : Expr) (f : DM Bool) : Prop := ∃ tt, PT X e tt ∧ DT X.K E tt f
noncomputable def PWD (X : Cx) (E : Str → Hp → Prop) (e : Expr) (f : DM Bool) : Prop := ∃ tt, PW X e tt ∧ DT X.K E tt f
noncomputable def PAD (X : Cx) (E : Str → Hp → Prop) (es : List Expr) (f : DM (List DV)) : Prop := ∃ ta, PA X es ta ∧ DA X.K E ta f
noncomputable def PSD (X : Cx) (E : Str → Hp → Prop) (mp : List Nat) (st : Stmt) (f : DM Fl) : Prop := ∃ ts, PS X st ts ∧ DS X.K E mp ts f
noncomputable def PSsD (X : Cx) (E : Str → Hp → Prop) (mp : List Nat) (st : List Stmt) (f : DM Fl) : Prop := ∃ ts, PSs X st ts ∧ DS X.K E mp ts f
section
variable {K : PySem.W.Frag} {E : Str → Hp → Prop} {H H1 H2 H' : Hp} {Ω Ω1 Ω2 Ω' : Om} {σ : St} {δ : DSt}
theorem join_some {α : Type} {o : Option (Option α)} {v : α} (h : o.join = some v) : o = some (some v) := by
  cases o with
  | none => cases h
  | some a => cases a with
    | none => cases h
    | some b => exact congrArg some h
noncomputable def fVar (i : Nat) : DM DV := fun δ => match δ[i]? with
  | some (.sh d) => .ok (.val d) δ
  | some (.ow _) => .ok (.slot i) δ
  | _ => .un
theorem de_var {i : Nat} : DE K E (tVar i) (fVar i) := by
  intro σ H δ Ω R Q h
  unfold fVar at h
  split at h
  · rename_i d hd
    obtain ⟨v, e1, e2⟩ := R.sl i _ hd
    exact ⟨v, join_some e1, h.now R e2⟩
  · rename_i ds hd
    obtain ⟨a, vs, e1, e2, e3, e4⟩ := R.sl i _ hd
    exact ⟨.ref a, join_some e1, h.now R (join_some e1)⟩
  · exact h.elim
noncomputable def fC (d : D) : DM DV := .ret (.val d)
theorem de_c {d : D} {v : V} (hd : ∀ H Ω, Rep K H Ω d v) : DE K E (tC v) (fC d) := fun σ H δ Ω R Q h => Wg.now h R (hd H Ω)
noncomputable def fBin (f1 f2 : DM DV) (g : D → D → Option DV) : DM DV := (fN f1).bd fun a1 => (fN f2).bd fun a2 => fun δ => match res δ a1, res δ a2 with
  | some d1, some d2 => (match g d1 d2 with | some r => .ok r δ | none => .un)
  | _, _ => .un
noncomputable def DR (K : PySem.W.Frag) (r : R2) (g : D → D → Option DV) : Prop :=
  ∀ {E : Str → Hp → Prop} {σ : St} {H : Hp} {δ : DSt} {Ω : Om} {x y : V} {d1 d2 : D} {z : DV} {Q : VK}, RepS K H Ω σ δ → RepB K H Ω d1 x → RepB K H Ω d2 y → g d1 d2 = some z → Wg E H Ω (PV K σ Q) (.ok z δ) → r x y H Q
theorem de_bin {r : R2} {g : D → D → Option DV} {ta tb : TE} {f1 f2 : DM DV} (hr : DR K r g) (ha : DE K E ta f1) (hb : DE K E tb f2) : DE K E (tOp r ta tb) (fBin f1 f2 g) := by
  intro σ H δ Ω R Q h
  refine ha.use R h fun a1 x δ1 H1 Ω1 _ s1 R1 r1 h1 => ?_
  refine hb.use R1 h1 fun a2 y δ2 H2 Ω2 e2 s2 R2 r2 h2 => ?_
  have r1 := r1.ext s1 e2
  cases q1 : res δ2 a1 with
  | none => rw [q1] at h2; exact h2.elim
  | some d1 =>
    cases q2 : res δ2 a2 with
    | none => rw [q1, q2] at h2; exact h2.elim
    | some d2 =>
      rw [q1, q2] at h2
      simp only at h2
      cases q3 : g d1 d2 with
      | none => rw [q3] at h2; exact h2.elim
      | some z =>
        rw [q3] at h2
        exact hr R2 (r1.res R2 q1) (r2.res R2 q2) q3 h2
noncomputable def fUn (f1 : DM DV) (g : D → Option DV) : DM DV := (fN f1).bd fun a1 => fun δ => match res δ a1 with
  | some d1 => (match g d1 with | some r => .ok r δ | none => .un)
  | _ => .un
noncomputable def DU (K : PySem.W.Frag) (r : V → Hp → VK → Prop) (g : D → Option DV) : Prop :=
  ∀ {E : Str → Hp → Prop} {σ : St} {H : Hp} {δ : DSt} {Ω : Om} {x : V} {d1 : D} {z : DV} {Q : VK}, RepS K H Ω σ δ → RepB K H Ω d1 x → g d1 = some z → Wg E H Ω (PV K σ Q) (.ok z δ) → r x H Q
theorem de_un {r : V → Hp → VK → Prop} {g : D → Option DV} {ta : TE} {f1 : DM DV} (hr : DU K r g) (ha : DE K E ta f1) : DE K E (tUn r ta) (fUn f1 g) := by
  intro σ H δ Ω R Q h
  refine ha.use R h fun a1 x δ1 H1 Ω1 _ s1 R1 r1 h1 => ?_
  cases q1 : res δ1 a1 with
  | none => rw [q1] at h1; exact h1.elim
  | some d1 =>
    rw [q1] at h1
    simp only at h1
    cases q3 : g d1 with
    | none => rw [q3] at h1; exact h1.elim
    | some z =>
      rw [q3] at h1
      exact hr R1 (r1.res R1 q1) q3 h1
noncomputable def fTest (f : DM DV) : DM Bool := (fN f).bd fun a δ => match res δ a with
  | some (.bl b) => .ok b δ
  | _ => .un
theorem dt_test {t : TE} {f : DM DV} (ha : DE K E t f) : DT K E (tTest t) (fTest f) := by
  intro σ H δ Ω R Q h
  refine ha.use R h fun a x δ1 H1 Ω1 _ s1 R1 r1 h1 => ?_
  cases q1 : res δ1 a with
  | none => rw [q1] at h1; exact h1.elim
  | some d =>
    rw [q1] at h1
    cases d with
    | bl b => exact ⟨b, (show x = .bl b from r1.res R1 q1), Wg.nowB h1 R1⟩
    | _ => exact h1.elim
theorem dt_tB {t : TE} {f : DM DV} (ha : DE K E t f) : DT K E (tB t) (fTest f) := dt_test ha
noncomputable def fAndT (f g : DM Bool) : DM Bool := f.bd fun b => if b then g else .ret false
noncomputable def fOrT (f g : DM Bool) : DM Bool := f.bd fun b => if b then .ret true else g
noncomputable def fNotT (f : DM Bool) : DM Bool := f.bd fun b => .ret (!b)
theorem dt_and {t u : TT} {f g : DM Bool} (ha : DT K E t f) (hb : DT K E u g) : DT K E (tAnd t u) (fAndT f g) := by
  intro σ H δ Ω R Q h
  refine ha.use R h fun b δ1 H1 Ω1 _ R1 h1 => ?_
  cases b with
  | true => exact iteT (hb σ H1 δ1 Ω1 R1 Q h1)
  | false => exact iteF (Wg.nowB h1 R1)
theorem dt_or {t u : TT} {f g : DM Bool} (ha : DT K E t f) (hb : DT K E u g) : DT K E (tOr t u) (fOrT f g) := by
  intro σ H δ Ω R Q h
  refine ha.use R h fun b δ1 H1 Ω1 _ R1 h1 => ?_
  cases b with
  | true => exact iteT (Wg.nowB h1 R1)
  | false => exact iteF (hb σ H1 δ1 Ω1 R1 Q h1)
theorem dt_not {t : TT} {f : DM Bool} (ha : DT K E t f) : DT K E (tNot t) (fNotT f) := by
  intro σ H δ Ω R Q h
  exact ha.use R h fun b δ1 H1 Ω1 _ R1 h1 => Wg.nowB h1 R1
noncomputable def fBool (f : DM DV) (g : Bool → DM DV) : DM DV := (fN f).bd fun a δ => match res δ a with
  | some (.bl b) => g b δ
  | _ => .un
noncomputable def fAndV (f g : DM DV) : DM DV := fBool f fun b => if b then g else fC (.bl false)
noncomputable def fOrV (f g : DM DV) : DM DV := fBool f fun b => if b then fC (.bl true) else g
noncomputable def fNotV (f : DM DV) : DM DV := fBool f fun b => fC (.bl (!b))
theorem de_bool {ta : TE} {f : DM DV} {g : Bool → DM DV} {T : Bool → TE} (ha : DE K E ta f) (hg : ∀ b, DE K E (T b) (g b)) : DE K E (fun σ H Q => ta σ H fun x H1 => ∃ c, x = .bl c ∧ T c σ H1 Q) (fBool f g) := by
  intro σ H δ Ω R Q h
  refine ha.use R h fun a x δ1 H1 Ω1 _ s1 R1 r1 h1 => ?_
  cases q1 : res δ1 a with
  | none => rw [q1] at h1; exact h1.elim
  | some d =>
    rw [q1] at h1
    cases d with
    | bl b => exact ⟨b, (show x = .bl b from r1.res R1 q1), hg b σ H1 δ1 Ω1 R1 Q h1⟩
    | _ => exact h1.elim
theorem de_and {ta tb : TE} {f g : DM DV} (ha : DE K E ta f) (hb : DE K E tb g) : DE K E (tAndV ta tb) (fAndV f g) :=
  de_bool (T := fun c σ H1 Q => if c = true then tb σ H1 Q else Q (.bl false) H1) ha fun b => by
    cases b with
    | true => exact fun σ H δ Ω R Q h => iteT (hb σ H δ Ω R Q h)
    | false => exact fun σ H δ Ω R Q h => iteF (Wg.now h R rfl)
theorem de_or {ta tb : TE} {f g : DM DV} (ha : DE K E ta f) (hb : DE K E tb g) : DE K E (tOrV ta tb) (fOrV f g) :=
  de_bool (T := fun c σ H1 Q => if c = true then Q (.bl true) H1 else tb σ H1 Q) ha fun b => by
    cases b with
    | true => exact fun σ H δ Ω R Q h => iteT (Wg.now h R rfl)
    | false => exact fun σ H δ Ω R Q h => iteF (hb σ H δ Ω R Q h)
noncomputable def fIfE (c : DM Bool) (f g : DM DV) : DM DV := c.bd fun b => if b then f else g
noncomputable def fNil : DM (List DV) := .ret []
noncomputable def fCons (f : DM DV) (r : DM (List DV)) : DM (List DV) := (fN f).bd fun a => r.bd fun as => .ret (a :: as)
theorem da_nil : DA K E tNil fNil := fun σ H δ Ω R Q h => h H Ω .refl R [] rfl (fun _ z => nomatch z)
theorem da_cons {ta : TE} {tr : TA} {f : DM DV} {r : DM (List DV)} (ha : DE K E ta f) (hr : DA K E tr r) : DA K E (tCons ta tr) (fCons f r) := by
  intro σ H δ Ω R Q h
  refine ha.use R h fun a x δ1 H1 Ω1 _ s1 R1 r1 h1 => ?_
  refine hr.use R1 h1 fun as vs δ2 H2 Ω2 e2 s2 R2 r2 h2 => ?_
  exact h2 H2 Ω2 .refl R2 (x :: vs) ⟨x, vs, rfl, r1.ext s1 e2, r2⟩ fun b hb => by
    rcases List.mem_cons.mp hb with z | z
    · rw [z]; exact s1
    · exact s2 b z
noncomputable def valsOf : List DV → Option (List D)
  | [] => some []
  | .val d :: r => match valsOf r with | some ds => some (d :: ds) | none => none
  | _ :: _ => none
theorem RepDVs.vals : ∀ {as : List DV} {vs : List V} {ds : List D}, RepDVs K H Ω σ as vs → valsOf as = some ds → Reps K H Ω ds vs
  | [], _, _, h, e => by cases e; exact h
  | a :: r, _, ds, h, e => by
    obtain ⟨v, q, e1, e2, e3⟩ := h
    cases a with
    | val d =>
      have e : (match valsOf r with | some ds => some (d :: ds) | none => none) = some ds := e
      cases q' : valsOf r with
      | none => rw [q'] at e; cases e
      | some es => rw [q'] at e; cases e; subst e1; exact .cons e2 (RepDVs.vals e3 q')
    | _ => cases e
noncomputable def resAll (δ : DSt) : List DV → Option (List D)
  | [] => some []
  | a :: r => match res δ a, resAll δ r with | some d, some ds => some (d :: ds) | _, _ => none
noncomputable def RepBs (K : PySem.W.Frag) (H : Hp) (Ω : Om) : List D → List V → Prop
  | [], vs => vs = []
  | d :: ds, vs => ∃ v r, vs = v :: r ∧ RepB K H Ω d v ∧ RepBs K H Ω ds r
theorem RepDVs.all (R : RepS K H Ω σ δ) : ∀ {as : List DV} {vs : List V} {ds : List D}, RepDVs K H Ω σ as vs → resAll δ as = some ds → RepBs K H Ω ds vs
  | [], _, _, h, e => by cases e; exact h
  | a :: r, _, ds, h, e => by
    obtain ⟨v, q, e1, e2, e3⟩ := h
    unfold resAll at e
    split at e
    · rename_i d es q1 q2
      cases e
      exact ⟨v, q, e1, e2.res R q1, RepDVs.all R e3 q2⟩
    · cases e
noncomputable def fCB (fa : DM (List DV)) (g : List D → Option DV) : DM DV := fa.bd fun as => fun δ => match resAll δ as with
  | some ds => (match g ds with | some r => .ok r δ | none => .un)
  | none => .un
noncomputable def DC (K : PySem.W.Frag) (r : List V → Hp → VK → Prop) (g : List D → Option DV) : Prop :=
  ∀ {E : Str → Hp → Prop} {σ : St} {H : Hp} {δ : DSt} {Ω : Om} {vs : List V} {ds : List D} {z : DV} {Q : VK}, RepS K H Ω σ δ → RepBs K H Ω ds vs → g ds = some z → Wg E H Ω (PV K σ Q) (.ok z δ) → r vs H Q
theorem de_cb {r : List V → Hp → VK → Prop} {g : List D → Option DV} {t : TA} {fa : DM (List DV)} (hr : DC K r g) (ha : DA K E t fa) : DE K E (tCB r t) (fCB fa g) := by
  intro σ H δ Ω R Q h
  refine ha.use R h fun as vs δ1 H1 Ω1 _ s1 R1 r1 h1 => ?_
  cases q1 : resAll δ1 as with
  | none => rw [q1] at h1; exact h1.elim
  | some ds =>
    rw [q1] at h1
    simp only at h1
    cases q3 : g ds with
    | none => rw [q3] at h1; exact h1.elim
    | some z =>
      rw [q3] at h1
      exact hr R1 (r1.all R1 q1) q3 h1
noncomputable def fTup (fa : DM (List DV)) : DM DV := fa.bd fun as δ => match valsOf as with
  | some ds => if ds.length ≤ sizeLine then .ok (.val (.tup ds)) δ else .un
  | none => .un
noncomputable def fLst (fa : DM (List DV)) : DM DV := fa.bd fun as δ => match valsOf as with
  | some ds => if ds.length ≤ sizeLine then .ok (.own ds) δ else .un
  | none => .un
theorem de_tup {t : TA} {fa : DM (List DV)} (ha : DA K E t fa) : DE K E (tTup t) (fTup fa) := by
  intro σ H δ Ω R Q h
  refine ha.use R h fun as vs δ1 H1 Ω1 _ s1 R1 r1 h1 => ?_
  cases q1 : valsOf as with
  | none => rw [q1] at h1; exact h1.elim
  | some ds =>
    rw [q1] at h1
    simp only at h1
    split at h1
    · rename_i hz
      have r := r1.vals q1
      exact ⟨by rw [← r.length]; exact hz, fun p hp => Wg.allocT h1 R1 hp r⟩
    · exact h1.elim
theorem de_lst {t : TA} {fa : DM (List DV)} (ha : DA K E t fa) : DE K E (tLst t) (fLst fa) := by
  intro σ H δ Ω R Q h
  refine ha.use R h fun as vs δ1 H1 Ω1 _ s1 R1 r1 h1 => ?_
  cases q1 : valsOf as with
  | none => rw [q1] at h1; exact h1.elim
  | some ds =>
    rw [q1] at h1
    simp only at h1
    split at h1
    · rename_i hz
      have r := r1.vals q1
      exact ⟨by rw [← r.length]; exact hz, fun p hp => Wg.alloc1 h1 R1 hp r⟩
    · exact h1.elim
noncomputable def fNext : DM Fl := .ret .nx
noncomputable def fSeq (f g : DM Fl) : DM Fl := fun δ => match f δ with
  | .ok .nx δ' => g δ'
  | r => r
variable {mp : List Nat}
theorem ds_next : DS K E mp tNext fNext := fun σ H δ Ω R B h => h H Ω .refl σ R fun _ _ => rfl
theorem PF.same {B : Ends} {σ' : St} {fl : Fl} {δ' : DSt} (h : PF K mp σ B fl δ' H Ω) (hm : ∀ j ∈ mp, σ'[j]? = σ[j]?) : PF K mp σ' B fl δ' H Ω := fun σ2 R2 m2 => h σ2 R2 fun j hj => (m2 j hj).trans (hm j hj)
theorem Wg.same {B : Ends} {σ' : St} {r : Rs Fl} (h : Wg E H Ω (PF K mp σ B) r) (hm : ∀ j ∈ mp, σ'[j]? = σ[j]?) : Wg E H Ω (PF K mp σ' B) r := h.imp fun _ _ _ _ _ q => PF.same q hm
theorem ds_seq {t u : TS} {f g : DM Fl} (hf : DS K E mp t f) (hg : DS K E mp u g) : DS K E mp (tSeq t u) (fSeq f g) := by
  intro σ H δ Ω R B h
  refine hf σ H δ Ω R _ ?_
  unfold fSeq at h
  cases e : f δ with
  | un => rw [e] at h; exact h
  | er c => rw [e] at h; exact h
  | ok a δ' =>
    rw [e] at h
    cases a with
    | nx => exact fun H' Ω' ex σ' R' m' => hg σ' H' δ' Ω' R' B ((Wg.ext h ex).same m')
    | bk => exact h
    | ct => exact h
    | rt d => exact h
    | rto ds => exact h
noncomputable def fIf (c : DM Bool) (f g : DM Fl) : DM Fl := c.bd fun b => if b then f else g
theorem ds_if {c : TT} {t u : TS} {fc : DM Bool} {f g : DM Fl} (hc : DT K E c fc) (hf : DS K E mp t f) (hg : DS K E mp u g) : DS K E mp (tIfS c t u) (fIf fc f g) := by
  intro σ H δ Ω R B h
  refine hc.use R h fun b δ1 H1 Ω1 _ R1 h1 => ?_
  cases b with
  | true => exact iteT (hf σ H1 δ1 Ω1 R1 B h1)
  | false => exact iteF (hg σ H1 δ1 Ω1 R1 B h1)
theorem RepS.set {i : Nat} {s : Sl} {v : V} (R : RepS K H Ω σ δ) (r : RepSl K H Ω i s (some v)) : RepS K H Ω (σ.set i (some v)) (δ.set i s) := by
  refine ⟨by rw [List.length_set, List.length_set]; exact R.len, fun j t h => ?_, R.trk⟩
  by_cases hj : i = j
  · subst hj
    have hl : i < δ.length := by
      have := (List.getElem?_eq_some_iff.mp h).1
      rwa [List.length_set] at this
    rw [List.getElem?_set_self hl] at h
    cases h
    rw [List.getElem?_set_self (by rw [← R.len]; exact hl)]
    exact r
  · rw [List.getElem?_set_ne hj] at h
    rw [List.getElem?_set_ne hj]
    exact R.sl j t h
theorem RepS.forget {i : Nat} (R : RepS K H Ω σ δ) : RepS K H Ω σ (δ.set i .no) := by
  refine ⟨by rw [List.length_set]; exact R.len, fun j t h => ?_, R.trk⟩
  by_cases hj : i = j
  · subst hj
    have hl : i < δ.length := by
      have := (List.getElem?_eq_some_iff.mp h).1
      rwa [List.length_set] at this
    rw [List.getElem?_set_self hl] at h
    cases h
    trivial
  · rw [List.getElem?_set_ne hj] at h
    exact R.sl j t h
theorem set_same {i : Nat} {o : Option V} (hi : i ∉ mp) : ∀ j ∈ mp, (σ.set i o)[j]? = σ[j]? := fun j hj => List.getElem?_set_ne fun z => hi (by rw [z]; exact hj)
noncomputable def fSet (i : Nat) (f : DM DV) : DM Fl := (fN f).bd fun a δ => match a with
  | .val d => .ok .nx (δ.set i (.sh d))
  | _ => .un
theorem ds_set {i : Nat} {te : TE} {f : DM DV} (hi : i ∉ mp) (ha : DE K E te f) : DS K E mp (tAsg te (gName i)) (fSet i f) := by
  intro σ H δ Ω R B h
  refine ha.use R h fun a x δ1 H1 Ω1 _ s1 R1 r1 h1 => ?_
  cases a with
  | val d => exact h1 H1 Ω1 .refl _ (R1.set ⟨x, rfl, r1⟩) (set_same hi)
  | slot j => exact h1.elim
  | own ds => exact h1.elim
  | fld _ _ => exact h1.elim
noncomputable def ownTo (Ω : Om) (p : Addr) (k : Nat) : Om := fun b => if b = p then some k else Ω b
theorem Ext.own {p : Addr} {k k' : Nat} (hp : Ω p = some (k' + 1)) : Ext H Ω H (ownTo Ω p (k + 1)) where
  keep := fun b o' e _ => e
  new := fun b e h => by
    unfold ownTo
    rw [if_neg]
    · exact e
    · rintro rfl; rw [hp] at e; cases e
  fr := fun b => by
    unfold ownTo
    split
    · rename_i z
      subst z
      rw [hp]
      constructor <;> intro q <;> cases q
    · exact Iff.rfl
  live := fun b e => e
theorem RepS.ownTo {p : Addr} {k k' : Nat} (R : RepS K H Ω σ δ) (hp : Ω p = some (k' + 1)) (hs : ∀ i s, δ[i]? = some s → s = .no ∨ i + 2 ≠ k' + 1) : RepS K H (DL.ownTo Ω p (k + 1)) σ δ := by
  refine ⟨R.len, fun i s h => ?_, fun a j q => ?_⟩
  · rcases hs i s h with z | z
    · subst z; trivial
    refine (R.sl i s h).mv (fun _ _ => .ext (.own hp)) (fun _ _ => .ext (.own hp)) fun b vs e3 e2 => ⟨e2, ?_⟩
    unfold DL.ownTo
    rw [if_neg]
    · exact e3
    · rintro rfl
      rw [hp] at e3
      exact z (Option.some.inj e3).symm
  · unfold DL.ownTo at q
    split at q
    · rename_i z; subst z; exact R.trk _ _ hp
    · exact R.trk a j q
noncomputable def fSetO (i : Nat) (f : DM DV) : DM Fl := f.bd fun a δ => match a with
  | .own ds => .ok .nx (δ.set i (.ow ds))
  | _ => .un
theorem ds_setO {i : Nat} {te : TE} {f : DM DV} (hi : i ∉ mp) (ha : DE K E te f) : DS K E mp (tAsg te (gName i)) (fSetO i f) := by
  intro σ H δ Ω R B h
  refine ha σ H δ Ω R _ (Wg.bd h fun a δ1 H1 Ω1 ex h1 R1 x r1 => ?_)
  cases a with
  | val d => exact h1.elim
  | slot j => exact h1.elim
  | fld _ _ => exact h1.elim
  | own ds =>
    obtain ⟨a, vs, e1, e2, e3, e4⟩ := r1
    subst e1
    have R2 := R1.ownTo (k := i + 1) (k' := 0) e3 fun j _ _ => .inr (by omega)
    exact h1 H1 (DL.ownTo Ω1 a (i + 1 + 1)) (.own (k' := 0) e3) _ (R2.set ⟨a, vs, rfl, e2, by unfold DL.ownTo; rw [if_pos rfl], e4.ext (.own (k' := 0) e3)⟩) (set_same hi)
noncomputable def frz (i : Nat) (δ : DSt) : DSt := match δ[i]? with
  | some (.ow ds) => δ.set i (.sh (.lst ds))
  | _ => δ
noncomputable def fRet (f : DM DV) : DM Fl := f.bd fun a δ => match a with
  | .val d => .ok (.rt d) δ
  | .own ds => .ok (.rto ds) δ
  | .slot i => (match δ[i]? with | some (.ow ds) => .ok (.rto ds) (δ.set i .no) | _ => .un)
  | .fld _ _ => .un
theorem ds_ret {te : TE} {f : DM DV} (ha : DE K E te f) : DS K E mp (tRet te) (fRet f) := by
  intro σ H δ Ω R B h
  refine ha σ H δ Ω R _ (Wg.bd h fun a δ1 H1 Ω1 ex h1 R1 x r1 => ?_)
  cases a with
  | val d => exact h1 H1 Ω1 .refl σ R1 (fun _ _ => rfl) x r1
  | own ds => exact h1 H1 Ω1 .refl σ R1 (fun _ _ => rfl) x r1
  | fld _ _ => exact h1.elim
  | slot i =>
    simp only at h1
    split at h1
    · rename_i ds hd
      obtain ⟨a, vs, e1, e2, e3, e4⟩ := R1.sl i _ hd
      have r1 : σ[i]? = some (some x) := r1
      rw [r1] at e1
      cases e1
      have hl : i < δ1.length := (List.getElem?_eq_some_iff.mp hd).1
      have R2 := (R1.forget (i := i)).ownTo (k := 0) (k' := i + 1) e3 fun j s q => by
        by_cases z : j = i
        · subst z
          rw [List.getElem?_set_self hl] at q
          exact .inl (Option.some.inj q).symm
        · exact .inr (by omega)
      exact h1 H1 (DL.ownTo Ω1 a (0 + 1)) (.own (k' := i + 1) e3) σ R2 (fun _ _ => rfl) _ ⟨a, vs, rfl, e2, by unfold DL.ownTo; rw [if_pos rfl], e4.ext (.own (k' := i + 1) e3)⟩
    · exact h1.elim
end
end DL
namespace DL
open PySem PySem.Spec PyProof.Rows L2
structure Yl (K : PySem.W.Frag) (J : It) (H : Hp) (Ω : Om) (ds : List D) : Prop where
  go : ∀ i H' Ω', Ext H Ω H' Ω' → i < ds.length → J.go i H'
  yld : ∀ i d H' Ω' x H'', Ext H Ω H' Ω' → ds[i]? = some d → J.yld i H' x H'' → Rep K H'' Ω' d x ∧ (H'' = H' ∨ ∃ p xs, H' p = none ∧ H'' = upd H' p (.tup xs))
  stop : ∀ H' Ω', Ext H Ω H' Ω' → J.stop ds.length H'
noncomputable def DI (K : PySem.W.Frag) (E : Str → Hp → Prop) (wi : TI) (f : DM (List D)) : Prop := ∀ σ H δ Ω, RepS K H Ω σ δ → ∀ R : It → Hp → Prop,
  Wg E H Ω (fun ds δ' H' Ω' => RepS K H' Ω' σ δ' → ∀ J, (∀ Ω2 : Om, (∀ b, Ω' b = none → Ω2 b = none) → Yl K J H' Ω2 ds) → R J H') (f δ) → wi σ H R
noncomputable def DG (K : PySem.W.Frag) (mp : List Nat) (g : TG) (t : D → DSt → Option DSt) : Prop := ∀ σ H δ Ω d x δ', RepS K H Ω σ δ → Rep K H Ω d x → t d δ = some δ' →
  ∀ Q : St → Hp → Prop, (∀ σ', RepS K H Ω σ' δ' → (∀ j ∈ mp, σ'[j]? = σ[j]?) → Q σ' H) → g x σ H Q
section
variable {K : PySem.W.Frag} {E : Str → Hp → Prop} {H H1 H2 H' : Hp} {Ω Ω1 Ω2 Ω' : Om} {σ : St} {δ : DSt} {mp : List Nat}
noncomputable def sName (i : Nat) : D → DSt → Option DSt := fun d δ => some (δ.set i (.sh d))
theorem dg_name {i : Nat} (hi : i ∉ mp) : DG K mp (gName i) (sName i) := by
  intro σ H δ Ω d x δ' R r e Q h
  cases e
  exact h _ (R.set ⟨x, rfl, r⟩) (set_same hi)
noncomputable def loopD (t : D → DSt → Option DSt) (body : DM Fl) : List D → DM Fl
  | [], δ => .ok .nx δ
  | d :: ds, δ => match t d δ with
    | none => .un
    | some δ1 => match body δ1 with
      | .un => .un
      | .er c => .er c
      | .ok .nx δ2 => loopD t body ds δ2
      | .ok .ct δ2 => loopD t body ds δ2
      | .ok .bk δ2 => .ok .nx δ2
      | .ok (.rt d) δ2 => .ok (.rt d) δ2
      | .ok (.rto d) δ2 => .ok (.rto d) δ2
noncomputable def fFor (fi : DM (List D)) (t : D → DSt → Option DSt) (body : DM Fl) : DM Fl := fi.bd fun ds => loopD t body ds
theorem drop_cons {α : Type} {l : List α} {i : Nat} {a : α} (h : l[i]? = some a) : l.drop i = a :: l.drop (i + 1) := by
  obtain ⟨hi, e⟩ := List.getElem?_eq_some_iff.mp h
  rw [List.drop_eq_getElem_cons hi, e]
theorem ds_for {wi : TI} {g : TG} {tb : TS} {fi : DM (List D)} {t : D → DSt → Option DSt} {fb : DM Fl} (hi : DI K E wi fi) (hg : DG K mp g t) (hb : DS K E mp tb fb) : DS K E mp (tFor wi g tb) (fFor fi t fb) := by
  intro σ H δ Ω R B h
  refine hi σ H δ Ω R _ (Wg.bd h fun ds δ1 H1 Ω1 _ h1 R1 J YY => ?_)
  have Y := YY Ω1 fun _ z => z
  refine ⟨fun i m σ' H' => m = ds.length - i ∧ i ≤ ds.length ∧ ∃ δ' Ω', RepS K H' Ω' σ' δ' ∧ Ext H1 Ω1 H' Ω' ∧ Wg E H' Ω' (PF K mp σ' B) (loopD t fb (ds.drop i) δ'), ⟨_, rfl, Nat.zero_le _, δ1, Ω1, R1, .refl, h1⟩, ?_⟩
  rintro i m σ' H' ⟨rfl, hl, δ', Ω', R', e', w⟩
  by_cases hlt : i < ds.length
  · refine .inr ⟨Y.go i H' Ω' e' hlt, fun σ2 H2 => ∃ δ2 Ω2, RepS K H2 Ω2 σ2 δ2 ∧ Ext H1 Ω1 H2 Ω2 ∧ Wg E H2 Ω2 (PF K mp σ2 B) (loopD t fb (ds.drop (i + 1)) δ2), fun σ2 H2 ⟨δ2, Ω2, R2, e2, w2⟩ => ⟨_, by omega, rfl, hlt, δ2, Ω2, R2, e2, w2⟩, fun x H2 hy => ?_⟩
    obtain ⟨d, hd⟩ : ∃ d, ds[i]? = some d := ⟨ds[i], List.getElem?_eq_getElem hlt⟩
    obtain ⟨rx, hH⟩ := Y.yld i d H' Ω' x H2 e' hd hy
    have R2 : RepS K H2 Ω' σ' δ' := by
      rcases hH with z | ⟨p, xs, hp, z⟩
      · rw [z]; exact R'
      · rw [z]; exact R'.alloc hp
    have e2 : Ext H' Ω' H2 Ω' := by
      rcases hH with z | ⟨p, xs, hp, z⟩
      · rw [z]; exact .refl
      · rw [z]; exact .alloc hp R'.trk
    rw [drop_cons hd] at w
    unfold loopD at w
    cases q : t d δ' with
    | none => rw [q] at w; exact w.elim
    | some δ3 =>
      rw [q] at w
      simp only at w
      refine hg σ' H2 δ' Ω' d x δ3 R2 rx q _ fun σ3 R3 m3 => ?_
      refine hb σ3 H2 δ3 Ω' R3 _ ?_
      cases q4 : fb δ3 with
      | un => rw [q4] at w; exact w
      | er c => rw [q4] at w; exact Wg.ext (P := PF K mp σ' B) (r := .er c) w e2
      | ok fl δ4 =>
        rw [q4] at w
        cases fl with
        | nx => exact fun H4 Ω4 e4 σ4 R4 m4 => ⟨δ4, Ω4, R4, e'.trans (e2.trans e4), (Wg.ext w (e2.trans e4)).same fun j hj => (m4 j hj).trans (m3 j hj)⟩
        | ct => exact fun H4 Ω4 e4 σ4 R4 m4 => ⟨δ4, Ω4, R4, e'.trans (e2.trans e4), (Wg.ext w (e2.trans e4)).same fun j hj => (m4 j hj).trans (m3 j hj)⟩
        | bk => exact fun H4 Ω4 e4 σ4 R4 m4 => w H4 Ω4 (e2.trans e4) σ4 R4 fun j hj => (m4 j hj).trans (m3 j hj)
        | rt d => exact fun H4 Ω4 e4 σ4 R4 m4 => w H4 Ω4 (e2.trans e4) σ4 R4 fun j hj => (m4 j hj).trans (m3 j hj)
        | rto d => exact fun H4 Ω4 e4 σ4 R4 m4 => w H4 Ω4 (e2.trans e4) σ4 R4 fun j hj => (m4 j hj).trans (m3 j hj)
  · have hil : i = ds.length := by omega
    subst hil
    rw [List.drop_length] at w
    exact .inl ⟨Y.stop H' Ω' e', w H' Ω' .refl σ' R' fun _ _ => rfl⟩
noncomputable def whileD (c : DM Bool) (body : DM Fl) : Nat → DM Fl
  | 0 => fun _ => .un
  | n + 1 => c.bd fun b => if b then (fun δ => match body δ with
      | .un => .un
      | .er c => .er c
      | .ok .nx δ2 => whileD c body n δ2
      | .ok .ct δ2 => whileD c body n δ2
      | .ok .bk δ2 => .ok .nx δ2
      | .ok (.rt d) δ2 => .ok (.rt d) δ2
      | .ok (.rto d) δ2 => .ok (.rto d) δ2) else .ret .nx
theorem ds_while {c : TT} {tb : TS} {fc : DM Bool} {fb : DM Fl} (n : Nat) (hc : DT K E c fc) (hb : DS K E mp tb fb) : DS K E mp (tWhile c tb) (whileD fc fb n) := by
  intro σ H δ Ω R B h
  refine ⟨fun m σ' H' => ∃ δ' Ω', RepS K H' Ω' σ' δ' ∧ Wg E H' Ω' (PF K mp σ' B) (whileD fc fb m δ'), ⟨n, δ, Ω, R, h⟩, ?_⟩
  rintro m σ' H' ⟨δ', Ω', R', w⟩
  cases m with
  | zero => exact w.elim
  | succ m =>
    refine hc.use R' w fun b δ1 H1 Ω1 _ R1 h1 => ?_
    cases b with
    | false => exact iteF (h1 H1 Ω1 .refl σ' R1 fun _ _ => rfl)
    | true =>
      refine iteT ⟨fun σ2 H2 => ∃ δ2 Ω2, RepS K H2 Ω2 σ2 δ2 ∧ Wg E H2 Ω2 (PF K mp σ2 B) (whileD fc fb m δ2), fun σ2 H2 h2 => ⟨m, Nat.lt_succ_self m, h2⟩, ?_⟩
      refine hb σ' H1 δ1 Ω1 R1 _ ?_
      simp only [if_true] at h1
      cases q4 : fb δ1 with
      | un => rw [q4] at h1; exact h1
      | er c => rw [q4] at h1; exact h1
      | ok fl δ4 =>
        rw [q4] at h1
        cases fl with
        | nx => exact fun H4 Ω4 e4 σ4 R4 m4 => ⟨δ4, Ω4, R4, (Wg.ext h1 e4).same m4⟩
        | ct => exact fun H4 Ω4 e4 σ4 R4 m4 => ⟨δ4, Ω4, R4, (Wg.ext h1 e4).same m4⟩
        | bk => exact fun H4 Ω4 e4 σ4 R4 m4 => h1 H4 Ω4 e4 σ4 R4 m4
        | rt d => exact fun H4 Ω4 e4 σ4 R4 m4 => h1 H4 Ω4 e4 σ4 R4 m4
        | rto d => exact fun H4 Ω4 e4 σ4 R4 m4 => h1 H4 Ω4 e4 σ4 R4 m4
noncomputable def fIt (f : DM DV) (g : D → Option (List D)) : DM (List D) := (fN f).bd fun a δ => match a with
  | .val d => (match g d with | some ds => .ok ds δ | none => .un)
  | _ => .un
noncomputable def gLstItems : D → Option (List D)
  | .lst ds => some ds
  | _ => none
theorem yl_list {a : Addr} {vs : List V} {ds : List D} (h : ShL H Ω a vs) (r : Reps K H Ω ds vs) : Yl K (Itl K a) H Ω ds where
  go := fun i H' Ω' e hi => by
    obtain ⟨v, q, _⟩ := r.get (List.getElem?_eq_getElem hi)
    exact ⟨vs, v, (.inl (h.ext e).1), q⟩
  yld := fun i d H' Ω' x H'' e hd hy => by
    obtain ⟨z, hy⟩ := hy
    subst z
    obtain ⟨v, q, rv⟩ := (r.ext e).get hd
    have := hy vs (.inl (h.ext e).1)
    rw [q] at this
    cases this
    exact ⟨rv, .inl rfl⟩
  stop := fun H' Ω' e => ⟨vs, (.inl (h.ext e).1), by rw [r.length]; exact Nat.le_refl _⟩
noncomputable def rangeD (lo : Int) (n : Nat) : List D := (List.range n).map fun (k : Nat) => D.int (lo + (k : Int))
theorem yl_range (lo : Int) (n : Nat) : Yl K (Itr lo n) H Ω (rangeD lo n) where
  go := fun i H' Ω' e hi => by
    unfold rangeD at hi
    rw [List.length_map, List.length_range] at hi
    exact hi
  yld := fun i d H' Ω' x H'' e hd hy => by
    obtain ⟨z, hy⟩ := hy
    subst z
    unfold rangeD at hd
    rw [List.getElem?_map] at hd
    cases q : (List.range n)[i]? with
    | none => rw [q] at hd; cases hd
    | some k =>
      rw [q] at hd
      have hk : k = i := by
        obtain ⟨h1, h2⟩ := List.getElem?_eq_some_iff.mp q
        rw [List.getElem_range] at h2
        exact h2.symm
      subst hk
      cases hd
      exact ⟨hy, .inl rfl⟩
  stop := fun H' Ω' e => by
    unfold rangeD
    rw [List.length_map, List.length_range]
    exact Nat.le_refl n
theorem di_list {te : TE} {f : DM DV} (ha : DE K E te f) : DI K E (iList K te) (fIt f gLstItems) := by
  intro σ H δ Ω R Q h
  refine ha.use R h fun a x δ1 H1 Ω1 _ s1 R1 r1 h1 => ?_
  cases a with
  | val d =>
    cases d with
    | lst ds =>
      obtain ⟨b, vs, e1, e2, e3⟩ := (show ∃ a vs, _ from r1)
      exact ⟨b, e1, ⟨vs, .inl e2.1⟩, h1 H1 Ω1 .refl R1 _ fun Ω2 z => yl_list (e2.less z) (e3.less z)⟩
    | _ => exact h1.elim
  | slot i => exact h1.elim
  | fld _ _ => exact h1.elim
  | own ds => exact h1.elim
noncomputable def small62 (j : Int) : Bool := decide (-(2 ^ 62) ≤ j) && decide (j < 2 ^ 62)
noncomputable def fRng1 (fa : DM (List DV)) : DM (List D) := fa.bd fun as δ => match as with
  | [.val (.int j)] => if small62 j then .ok (rangeD 0 j.toNat) δ else .un
  | _ => .un
noncomputable def fRng2 (fa : DM (List DV)) : DM (List D) := fa.bd fun as δ => match as with
  | [.val (.int i), .val (.int j)] => if small62 i && small62 j then .ok (rangeD i (j - i).toNat) δ else .un
  | _ => .un
theorem di_rng1 {t : TA} {fa : DM (List DV)} (ha : DA K E t fa) : DI K E (iRng1 t) (fRng1 fa) := by
  intro σ H δ Ω R Q h
  refine ha.use R h fun as vs δ1 H1 Ω1 _ s1 R1 r1 h1 => ?_
  (try dsimp only at h1)
  split at h1
  · rename_i j
    split at h1
    · rename_i hj
      unfold small62 at hj
      simp only [Bool.and_eq_true, decide_eq_true_eq] at hj
      obtain ⟨v, q, e1, e2, e3⟩ := r1
      cases (show q = [] from e3)
      cases (show v = .int j from e2)
      exact ⟨j, e1, hj.1, hj.2, h1 H1 Ω1 .refl R1 _ fun Ω2 z => yl_range 0 _⟩
    · exact h1.elim
  · exact h1.elim
theorem di_rng2 {t : TA} {fa : DM (List DV)} (ha : DA K E t fa) : DI K E (iRng2 t) (fRng2 fa) := by
  intro σ H δ Ω R Q h
  refine ha.use R h fun as vs δ1 H1 Ω1 _ s1 R1 r1 h1 => ?_
  (try dsimp only at h1)
  split at h1
  · rename_i i j
    split at h1
    · rename_i hj
      unfold small62 at hj
      simp only [Bool.and_eq_true, decide_eq_true_eq] at hj
      obtain ⟨v, q, e1, e2, e3⟩ := r1
      obtain ⟨v', q', e1', e2', e3'⟩ := e3
      cases (show q' = [] from e3')
      cases (show v = .int i from e2)
      cases (show v' = .int j from e2')
      subst e1'
      exact ⟨i, j, e1, ⟨hj.1.1, hj.1.2, hj.2.1, hj.2.2⟩, h1 H1 Ω1 .refl R1 _ fun Ω2 z => yl_range i _⟩
    · exact h1.elim
  · exact h1.elim
noncomputable def under (Ω : Om) : Om := fun b => (Ω b).map fun _ => 0
noncomputable def back (Ω Ω' : Om) : Om := fun b => match Ω' b with
  | some 0 => Ω b
  | some 1 => some 1
  | _ => none
theorem under_none {b : Addr} (h : Ω b = none) : under Ω b = none := by unfold under; rw [h]; rfl
theorem under_some {b : Addr} {k : Nat} (h : Ω b = some k) : under Ω b = some 0 := by unfold under; rw [h]; rfl
theorem back_none (b : Addr) (h : Ω' b = none) : back Ω Ω' b = none := by unfold back; rw [h]
theorem back_zero {b : Addr} (h : Ω' b = some 0) : back Ω Ω' b = Ω b := by unfold back; rw [h] <;> rfl
theorem back_one {b : Addr} (h : Ω' b = some 1) : back Ω Ω' b = some 1 := by unfold back; rw [h] <;> rfl
theorem Ext.back (e : Ext H (under Ω) H' Ω') : Ext H Ω H' (back Ω Ω') where
  keep := fun b o q h => e.keep b o q (h.imp_right fun z => z.imp under_none under_some)
  new := fun b q h => back_none b (e.new b (under_none q) h)
  fr := fun b => by
    constructor
    · intro h
      rw [back_zero ((e.fr b).mp (under_some h))]
      exact h
    · intro h
      unfold DL.back at h
      split at h
      · exact h
      · cases h
      · cases h
  live := e.live
theorem RepS.back (R : RepS K H Ω σ δ) (e : Ext H (under Ω) H' Ω') (ht : ∀ a k, Ω' a = some k → ∃ u, H' a = some u ∧ fixO u = false) : RepS K H' (back Ω Ω') σ δ := by
  refine R.ext e.back (fun b k vs q1 q2 => ⟨e.keep b _ q2 (.inr (.inr (under_some q1))), by rw [back_zero ((e.fr b).mp (under_some q1))]; exact q1⟩) fun a k q => ?_
  unfold DL.back at q
  split at q
  · rename_i z; exact ht a _ z
  · rename_i z; exact ht a _ z
  · cases q
inductive Ro where
  | un | er (c : Str) | ok (d : D) | own (ds : List D)
noncomputable def RoQ (K : PySem.W.Frag) (E : Str → Hp → Prop) (H : Hp) (Ω : Om) (Q : VK) : Ro → Prop
  | .un => False
  | .er c => ∀ H' Ω', Ext H Ω H' Ω' → Trk H' Ω' → E c H'
  | .ok d => ∀ H' Ω', Ext H Ω H' Ω' → Trk H' Ω' → ∀ v, Rep K H' Ω' d v → Q v H'
  | .own ds => ∀ H' Ω', Ext H Ω H' Ω' → Trk H' Ω' → ∀ v, RepDV K H' Ω' [] (.own ds) v → Q v H'
noncomputable def spP (K : PySem.W.Frag) (ce : Str → Value) (n : Nat) (M : List D → Ro) : Sp := fun vs H Q E => vs.length = n ∧ ∃ Ω ds, Trk H Ω ∧ (∀ b k, Ω b = some k → k = 0) ∧ Reps K H Ω ds vs ∧ RoQ K (fun c H' => E (ce c) none H') H Ω Q (M ds)
noncomputable def fCall (n : Nat) (fa : DM (List DV)) (M : List D → Ro) : DM DV := fa.bd fun as δ => match valsOf as with
  | none => .un
  | some ds => if ds.length = n then (match M ds with
    | .un => .un
    | .er c => .er c
    | .ok d => .ok (.val d) δ
    | .own ds => .ok (.own ds) δ) else .un
theorem trk_under (t : Trk H Ω) : Trk H (under Ω) := fun a k q => by
  unfold under at q
  cases e : Ω a with
  | none => rw [e] at q; cases q
  | some j => exact t a j e
theorem under_zero : ∀ b k, under Ω b = some k → k = 0 := fun b k q => by
  unfold under at q
  cases e : Ω b with
  | none => rw [e] at q; cases q
  | some j => rw [e] at q; cases q; rfl
theorem de_call {ce : Str → Value} {n : Nat} {M : List D → Ro} {Ex : XK} {t : TA} {fa : DM (List DV)} (hE : ∀ c H', E c H' → Ex (ce c) none H') (ha : DA K E t fa) : DE K E (tCall (spP K ce n M) [] Ex t) (fCall n fa M) := by
  intro σ H δ Ω R Q h
  refine ha.use R h fun as vs δ1 H1 Ω1 _ s1 R1 r1 h1 => ?_
  (try dsimp only at h1)
  cases q1 : valsOf as with
  | none => rw [q1] at h1; exact h1.elim
  | some ds =>
    rw [q1] at h1
    dsimp only at h1
    split at h1
    · rename_i hn
      have r := r1.vals q1
      show spP K ce n M (vs ++ []) H1 Q Ex
      rw [List.append_nil]
      refine ⟨by rw [← r.length]; exact hn, under Ω1, ds, trk_under R1.trk, under_zero, r.less fun b q => under_none q, ?_⟩
      cases q3 : M ds with
      | un => rw [q3] at h1; exact h1
      | er c => rw [q3] at h1; exact fun H' Ω' e' t' => hE c H' (h1 H' _ e'.back (R1.back e' t').trk)
      | ok d => rw [q3] at h1; exact fun H' Ω' e' t' v rv => h1 H' _ e'.back (R1.back e' t') v (Rep.less back_none rv)
      | own es =>
        rw [q3] at h1
        intro H' Ω' e' t' v ⟨a, ws, z1, z2, z3, z4⟩
        exact h1 H' _ e'.back (R1.back e' t') v ⟨a, ws, z1, z2, back_one z3, z4.less back_none⟩
    · exact h1.elim
noncomputable def captD (δ : DSt) (sel : List (Option Nat)) : DSt := sel.map fun o => match o with
  | none => .no
  | some j => match δ[j]? with | some (.sh d) => .sh d | _ => .no
noncomputable def compD (t : D → DSt → Option DSt) (fc : DM Bool) (fe : DM DV) : List D → DSt → List D → Option (List D)
  | [], _, out => some out
  | d :: ds, δ, out => match t d δ with
    | none => none
    | some δ1 => match fc δ1 with
      | .ok true δ2 => (match fN fe δ2 with
        | .ok (.val v) δ3 => if out.length < sizeLine then compD t fc fe ds δ3 (out ++ [v]) else none
        | _ => none)
      | .ok false δ2 => compD t fc fe ds δ2 out
      | _ => none
noncomputable def fLC (fi : DM (List D)) (t : D → DSt → Option DSt) (fc : DM Bool) (fe : DM DV) (sel : List (Option Nat)) : DM DV := fi.bd fun ds δ => match compD t fc fe ds (captD δ sel) [] with
  | some out => .ok (.own out) δ
  | none => .un
noncomputable def EN : Str → Hp → Prop := fun _ _ => False
theorem RepS.capt (R : RepS K H Ω σ δ) (sel : List (Option Nat)) (hl : ∀ b, Ω b = none → Ω' b = none) (ht : Trk H Ω') : RepS K H Ω' (capt σ sel) (captD δ sel) := by
  refine ⟨by unfold L2.capt captD; rw [List.length_map, List.length_map], fun i s h => ?_, ht⟩
  unfold captD at h
  rw [List.getElem?_map] at h
  cases q : sel[i]? with
  | none => rw [q] at h; cases h
  | some o =>
    rw [q] at h
    cases o with
    | none => cases h; trivial
    | some j =>
      have h : (match δ[j]? with | some (.sh d) => Sl.sh d | _ => .no) = s := Option.some.inj h
      have e : (L2.capt σ sel)[i]? = some ((σ[j]?).join) := by unfold L2.capt; rw [List.getElem?_map, q]; rfl
      rw [e]
      split at h
      · rename_i d hd
        subst h
        obtain ⟨v, e1, e2⟩ := R.sl j _ hd
        exact ⟨v, e1, Rep.less hl e2⟩
      · subst h; trivial
theorem Ext.hide {p : Addr} (e : Ext H Ω H' Ω') (hp : Ω p = some 0) (hl : ∃ vs, H p = some vs ∧ fixO vs = false) : Ext H (ownTo Ω p 1) H' (ownTo Ω' p 1) where
  keep := fun b o q h => by
    by_cases hb : b = p
    · subst hb
      exact e.keep b o q (.inr (.inr hp))
    · refine e.keep b o q ?_
      unfold ownTo at h
      rw [if_neg hb] at h
      exact h
  new := fun b q h => by
    unfold ownTo at q ⊢
    split at q
    · cases q
    · rename_i hb
      rw [if_neg hb]
      exact e.new b q h
  fr := fun b => by
    unfold ownTo
    split
    · constructor <;> intro q <;> cases q
    · exact e.fr b
  live := e.live
theorem Ext.put {p : Addr} {o : HO} (hl : ∃ vs, H p = some vs ∧ fixO vs = false) (hp : Ω p = some 1) : Ext H Ω (upd H p o) Ω where
  keep := fun b o' q h => by
    have hb : b ≠ p := by
      rintro rfl
      obtain ⟨vs, e, f⟩ := hl
      rw [e] at q
      cases q
      rcases h with h | h | h
      · rw [f] at h; cases h
      · rw [hp] at h; cases h
      · rw [hp] at h; cases h
    rw [upd_ne hb]
    exact q
  new := fun _ q _ => q
  fr := fun _ => Iff.rfl
  live := fun b q => by
    unfold upd at q
    split at q
    · cases q
    · exact q
theorem put_ext {p : Addr} {xs : List V} (hl : ∃ vs, H p = some vs ∧ fixO vs = false) : Ext H (ownTo Ω p 1) (upd H p (.lst xs)) (ownTo Ω p 1) := .put hl (by unfold ownTo; rw [if_pos rfl])
theorem own_of_none {p : Addr} (hp : Ω p ≠ none) : ∀ b, Ω b = none → ownTo Ω p 1 b = none := fun b q => by
  unfold ownTo
  rw [if_neg]
  · exact q
  · rintro rfl; exact hp q
theorem none_of_own {p : Addr} : ∀ b, ownTo Ω p 1 b = none → Ω b = none := fun b q => by
  unfold ownTo at q
  split at q
  · cases q
  · exact q
theorem Rep.put {p : Addr} {xs : List V} {d : D} {v : V} (h : Rep K H Ω d v) (hl : ∃ vs, H p = some vs ∧ fixO vs = false) (hp : Ω p ≠ none) : Rep K (upd H p (.lst xs)) Ω d v :=
  Rep.less none_of_own ((Rep.less (own_of_none hp) h).ext (put_ext hl))
theorem Reps.put {p : Addr} {xs : List V} {ds : List D} {vs : List V} (h : Reps K H Ω ds vs) (hl : ∃ vs, H p = some vs ∧ fixO vs = false) (hp : Ω p ≠ none) : Reps K (upd H p (.lst xs)) Ω ds vs :=
  Reps.less none_of_own ((Reps.less (own_of_none hp) h).ext (put_ext hl))
theorem RepS.put {p : Addr} {xs : List V} (R : RepS K H Ω σ δ) (hp : Ω p = some 0 ∨ Ω p = some 1) : RepS K (upd H p (.lst xs)) Ω σ δ := by
  have hl : ∃ vs, H p = some vs ∧ fixO vs = false := hp.elim (R.trk p 0) (R.trk p 1)
  have hp' : Ω p ≠ none := by rcases hp with z | z <;> (rw [z]; exact Option.some_ne_none _)
  refine ⟨R.len, fun i s h => ?_, fun a k q => ?_⟩
  · refine (R.sl i s h).mv (fun _ _ z => z.put hl hp') (fun _ _ z => z.put hl hp') fun a ws e3 e2 => ?_
    have ha : a ≠ p := by rintro rfl; rcases hp with z | z <;> (rw [z] at e3; cases e3)
    exact ⟨by rw [upd_ne ha]; exact e2, e3⟩
  · by_cases ha : a = p
    · subst ha; exact ⟨_, upd_same, rfl⟩
    · obtain ⟨ws, e, f⟩ := R.trk a k q
      exact ⟨ws, by rw [upd_ne ha]; exact e, f⟩
theorem RepS.relabel (R : RepS K H Ω σ δ) (h0 : ∀ b, Ω b = none → Ω' b = none) (h2 : ∀ b k, Ω b = some (k + 2) → Ω' b = some (k + 2)) (ht : Trk H Ω') : RepS K H Ω' σ δ :=
  ⟨R.len, fun i s h => (R.sl i s h).mv (fun _ _ => Rep.less h0) (fun _ _ => Reps.less h0) fun a ws e3 e2 => ⟨e2, h2 a i e3⟩, ht⟩
theorem trk_own {p : Addr} {k : Nat} (t : Trk H Ω) (hl : ∃ vs, H p = some vs ∧ fixO vs = false) : Trk H (ownTo Ω p k) := fun a j q => by
  by_cases ha : a = p
  · subst ha; exact hl
  · unfold ownTo at q
    rw [if_neg ha] at q
    exact t a j q
theorem de_lc {wi : TI} {g : TG} {ts : TT} {te : TE} {sel : List (Option Nat)} {fi : DM (List D)} {t : D → DSt → Option DSt} {fc : DM Bool} {fe : DM DV} (hi : DI K E wi fi) (hg : DG K [] g t) (hc : DT K EN ts fc) (he : DE K EN te fe) :
    DE K E (tLC wi g ts te sel) (fLC fi t fc fe sel) := by
  intro σ H δ Ω R Q h
  refine hi σ H δ Ω R _ (Wg.bd h fun ds δ1 H1 Ω1 _ h1 R1 J YY p hp => ?_)
  have Y := YY (under Ω1) fun _ z => under_none z
  have he := he.norm
  (try dsimp only at h1)
  cases hres : compD t fc fe ds (captD δ1 sel) [] with
  | none => rw [hres] at h1; exact h1.elim
  | some rs =>
    rw [hres] at h1
    have R0 : RepS K (upd H1 p (.lst [])) (ownTo (own1 (under Ω1) p) p 0) (capt σ sel) (captD δ1 sel) := by
      have r1 := (R1.capt sel (Ω' := under Ω1) (fun b q => under_none q) (trk_under R1.trk)).alloc1 (xs := []) hp
      refine r1.relabel (fun b q => ?_) (fun b k q => ?_) (trk_own r1.trk ⟨_, upd_same, rfl⟩)
      · unfold ownTo
        rw [if_neg]
        · exact q
        · rintro rfl
          unfold own1 at q
          rw [if_pos rfl] at q
          cases q
      · unfold ownTo
        rw [if_neg]
        · exact q
        · rintro rfl
          unfold own1 at q
          rw [if_pos rfl] at q
          cases q
    have o0 : ownTo (own1 (under Ω1) p) p 0 p = some 0 := by unfold ownTo; rw [if_pos rfl]
    have e0 : Ext H1 (under Ω1) (upd H1 p (.lst [])) (ownTo (ownTo (own1 (under Ω1) p) p 0) p 1) := by
      have q : ownTo (ownTo (own1 (under Ω1) p) p 0) p 1 = own1 (under Ω1) p := by
        funext b
        unfold ownTo own1
        split <;> rfl
      rw [q]
      exact .alloc1 hp (trk_under R1.trk)
    refine ⟨fun i m σ' H' => m = ds.length - i ∧ i ≤ ds.length ∧ ∃ δ' Ω' out ws, RepS K H' Ω' σ' δ' ∧ Ω' p = some 0 ∧ H' p = some (.lst ws) ∧ Reps K H' Ω' out ws ∧ Ext H1 (under Ω1) H' (ownTo Ω' p 1) ∧ compD t fc fe (ds.drop i) δ' out = some rs,
      ⟨_, rfl, Nat.zero_le _, _, _, [], [], R0, o0, upd_same, .nil, e0, hres⟩, ?_⟩
    rintro i m σ' H' ⟨rfl, hl, δ', Ω', out, ws, R', op, hw, rw', e', w⟩
    have t' : Trk H' (ownTo Ω' p 1) := trk_own R'.trk ⟨_, hw, rfl⟩
    have np : ∀ b, Ω' b = none → ownTo Ω' p 1 b = none := own_of_none (by rw [op]; exact Option.some_ne_none _)
    by_cases hlt : i < ds.length
    · refine .inr ⟨Y.go i H' _ e' hlt, fun σ2 H2 => ∃ δ' Ω' out ws, RepS K H2 Ω' σ2 δ' ∧ Ω' p = some 0 ∧ H2 p = some (.lst ws) ∧ Reps K H2 Ω' out ws ∧ Ext H1 (under Ω1) H2 (ownTo Ω' p 1) ∧ compD t fc fe (ds.drop (i + 1)) δ' out = some rs,
        fun σ2 H2 h2 => ⟨_, by omega, rfl, hlt, h2⟩, fun x H2 hy => ?_⟩
      obtain ⟨d, hd⟩ : ∃ d, ds[i]? = some d := ⟨ds[i], List.getElem?_eq_getElem hlt⟩
      obtain ⟨rx, hH⟩ := Y.yld i d H' _ x H2 e' hd hy
      have R2 : RepS K H2 Ω' σ' δ' := by
        rcases hH with z | ⟨q, xs, hq, z⟩
        · rw [z]; exact R'
        · rw [z]; exact R'.alloc hq
      have e2 : Ext H' Ω' H2 Ω' := by
        rcases hH with z | ⟨q, xs, hq, z⟩
        · rw [z]; exact .refl
        · rw [z]; exact .alloc hq R'.trk
      rw [drop_cons hd] at w
      unfold compD at w
      cases q : t d δ' with
      | none => rw [q] at w; cases w
      | some δ3 =>
        rw [q] at w
        dsimp only at w
        refine hg σ' H2 δ' Ω' d x δ3 R2 (Rep.less none_of_own rx) q _ fun σ3 R3 _ => ?_
        refine hc σ3 H2 δ3 Ω' R3 _ ?_
        cases q4 : fc δ3 with
        | un => rw [q4] at w; cases w
        | er c => rw [q4] at w; cases w
        | ok b δ4 =>
          rw [q4] at w
          intro H4 Ω4 e4 R4
          have e24 := e2.trans e4
          have op4 : Ω4 p = some 0 := (e24.fr p).mp op
          have hw4 : H4 p = some (.lst ws) := e24.keep p _ hw (.inr (.inr op))
          cases b with
          | false =>
            refine iteF ?_
            exact ⟨δ4, Ω4, out, ws, R4, op4, hw4, rw'.ext e24, e'.trans (e24.hide op ⟨_, hw, rfl⟩), w⟩
          | true =>
            refine iteT ?_
            dsimp only at w
            refine he σ3 H4 δ4 Ω4 R4 _ ?_
            cases q5 : fN fe δ4 with
            | un => rw [q5] at w; cases w
            | er c => rw [q5] at w; cases w
            | ok z δ5 =>
              rw [q5] at w
              cases z with
              | slot j => cases w
              | fld _ _ => cases w
              | own es => cases w
              | val v =>
                dsimp only at w
                split at w
                · rename_i hz
                  intro H5 Ω5 e5 R5 x5 r5
                  have e25 := e24.trans e5
                  have op5 : Ω5 p = some 0 := (e25.fr p).mp op
                  have hw5 : H5 p = some (.lst ws) := e25.keep p _ hw (.inr (.inr op))
                  have hn5 : Ω5 p ≠ none := by rw [op5]; exact Option.some_ne_none _
                  refine ⟨ws, hw5, by rw [← rw'.length]; exact hz, δ5, Ω5, out ++ [v], ws ++ [x5], R5.put (.inl op5), op5, upd_same, ?_, ?_, w⟩
                  · exact (((rw'.ext e25).append (.cons r5 .nil))).put ⟨_, hw5, rfl⟩ hn5
                  · exact (e'.trans (e25.hide op ⟨_, hw, rfl⟩)).trans (put_ext ⟨_, hw5, rfl⟩)
                · cases w
    · have hil : i = ds.length := by omega
      subst hil
      rw [List.drop_length] at w
      cases w
      refine .inl ⟨Y.stop H' _ e', h1 H' _ e'.back (R1.back e' t') _ ⟨p, ws, rfl, hw, back_one (by unfold ownTo; rw [if_pos rfl]), rw'.less fun b q => back_none b (np b q)⟩⟩
end
end DL
namespace L2
open PySem PySem.Spec PyProof.Rows
section
variable {X : Cx}
noncomputable def rCatS : R2 := fun x y H Q => ∃ l b xs zs, x = .ref l ∧ y = .ref b ∧ Rd H l (.lst xs) ∧ Rd H b (.lst zs) ∧ xs.length + zs.length ≤ sizeLine ∧ ∀ p, H p = none → Q (.ref p) (upd H p (.lst (xs ++ zs)))
theorem Inv.plain {pins : List (Addr × Obj)} {σ : St} {H : Hp} {s : Shared} {a : Addr} {xs : List V} (I : Inv X pins σ H s) (h : Rd H a (.lst xs)) :
    ∃ (its : List Value) (n : Nat), Vals xs its ∧ s.heap.get? a = some { cls := .type "list", data := .seq its.toArray n } ∧ xs.length ≤ sizeLine := by
  obtain ⟨z, its, n, r, e⟩ := (show ObjOk X.prog X.w H s.heap a (.lst xs) from h.ok I.hok)
  exact ⟨its, n, r, e, z⟩
theorem op_catS : OpR X (binaryOp .Add) rCatS := by
  intro pins s σ H x y v u Q I rx ry h
  obtain ⟨l, b, xs, zs, rfl, rfl, hH, hB, hz, q⟩ := h
  cases rx
  cases ry
  obtain ⟨its, n, r, e, z⟩ := I.plain hH
  obtain ⟨its2, n2, r2, e2, z2⟩ := I.plain hB
  have hl := r.length
  have hl2 := r2.length
  refine PySem.P.add_list e e2 ?_ (by rw [List.size_toArray, List.size_toArray]; omega)
  have ea : its.toArray ++ its2.toArray = (its ++ its2).toArray := by simp
  rw [ea]
  exact ⟨.ref _, _, I.lnew (t' := s.toks) (r.append r2) (by rw [List.length_append]; omega), rfl, q _ I.fresh⟩
inductive TyD (K : PySem.W.Frag) (H : Hp) : V → String → Prop where
  | non : TyD K H .non "NoneType"
  | bl (x : Bool) : TyD K H (.bl x) "bool"
  | int (i : Int) : TyD K H (.int i) "int"
  | str (x : Str) : TyD K H (.str x) "str"
  | lst {a : Addr} {xs : List V} (e : SqL K H a xs) : TyD K H (.ref a) "list"
  | tup {a : Addr} {xs : List V} (e : SqT K H a xs) : TyD K H (.ref a) "tuple"
theorem call_isinst : CallR X (.builtin "isinstance") (fun xs H Q => ∃ x T t b, xs = [x, .ty T] ∧ TyD X.K H x t ∧ PySem.W.kitOne X.K (.type t) (.type T) = some b ∧ Q (.bl b) H) := by
  intro pins s σ H xs us Q I r h
  obtain ⟨x, T, t, b, rfl, ty, e, q⟩ := h
  obtain ⟨u, c, rfl, rx, rc⟩ := vals2 r
  cases rc
  have fin : ∀ tk, EP X pins σ Q (.bool b) { s with toks := tk } := fun tk => ⟨.bl b, H, I.tok tk, rfl, q⟩
  cases ty with
  | non => cases (show u = Value.none from rx); exact PySem.W.kia_one PySem.W.kitx_none I.kIn True.intro e (fun z => nomatch z) fin
  | bl y => cases (show u = Value.bool y from rx); exact PySem.W.kia_one PySem.W.kitx_bool I.kIn True.intro e (fun z => nomatch z) fin
  | int i => obtain ⟨t, z⟩ := (show ∃ t, u = Value.int i t from rx); cases z; exact PySem.W.kia_one PySem.W.kitx_int I.kIn True.intro e (fun z => nomatch z) fin
  | str y => obtain ⟨t, z⟩ := (show ∃ t, u = Value.str y t from rx); cases z; exact PySem.W.kia_one PySem.W.kitx_str I.kIn True.intro e (fun z => nomatch z) fin
  | @lst a ys ea =>
    cases (show u = Value.ref a from rx)
    obtain ⟨its, _, ⟨o, n, h1, h2, _⟩, _⟩ := I.list ea
    exact PySem.W.kia_one PySem.W.kitx_list I.kIn ⟨o, h1, h2⟩ e (fun z => nomatch z) fin
  | @tup a ys ea =>
    cases (show u = Value.ref a from rx)
    obtain ⟨its, _, ⟨o, h1, h2, _⟩, _⟩ := I.tuple ea
    exact PySem.W.kia_one PySem.W.kitx_tuple I.kIn ⟨o, h1, h2⟩ e (fun z => nomatch z) fin
end
end L2
namespace L2
open PySem PySem.Spec PyProof.Rows
section
variable {X : Cx}
end
end L2
namespace L2
open PySem PySem.Spec PyProof.Rows
section
variable {X : Cx}
theorem vals_bl {bs : List Bool} {its : List Value} (r : Vals (bs.map V.bl) its) : ∀ (i : Nat) (v : Value), its.toArray[i]? = some v → v = .bool (bs.getD i false) := by
  induction bs generalizing its with
  | nil => cases r; intro i v h; simp at h
  | cons n ns ih =>
    cases r with
    | cons r1 r2 =>
      cases r1
      intro i v h
      cases i with
      | zero => simpa using h.symm
      | succ i => simpa using ih r2 i v (by simpa using h)
theorem range_get {α : Type} (bs : List α) (d : α) (p : (Nat → Bool) → Prop) : (List.range bs.length).map (fun i => bs.getD i d) = bs := by
  apply List.ext_getElem?
  intro i
  rw [List.getElem?_map]
  by_cases h : i < bs.length
  · rw [List.getElem?_range h, List.getElem?_eq_getElem h]
    simp [List.getD_eq_getElem?_getD, List.getElem?_eq_getElem h]
  · rw [List.getElem?_eq_none (by simpa using h), List.getElem?_eq_none (by simpa using h)]
    rfl
theorem range_all (bs : List Bool) : (List.range bs.length).all (fun i => bs.getD i false) = bs.all id := by
  have h := congrArg (fun l => List.all l id) (range_get bs false (fun _ => True))
  simpa [List.all_map] using h
theorem call_allL (hc : X.calm = true) : CallR X (.builtin "all") (fun xs H Q => ∃ (p : Addr) (bs : List Bool), xs = [.ref p] ∧ SqL X.K H p (bs.map V.bl) ∧ Q (.bl (bs.all id)) H) := by
  intro pins s σ H xs us Q I r h
  obtain ⟨p, bs, rfl, hq, q⟩ := h
  obtain ⟨u, rfl, rx⟩ := vals1 r
  cases rx
  obtain ⟨its, rv, pl, hz⟩ := I.list hq
  have hlt : p < s.heap.objs.size := by obtain ⟨o, e, _⟩ := pl.isList; exact Heap.lt_size e
  have hl : bs.length = its.toArray.size := by
    have := rv.length
    rw [List.length_map] at this
    rw [List.size_toArray]; exact this
  refine call_all_walk (wpAny_pyIter_list pl.isList ?_)
  refine ⟨s.heap.objs.size, [s.heap.objs.size, p], [s.heap.objs.size], _, _, _, fun i => bs.getD i false, rfl, Walks.list (A := X.A.in1) (I.ok.hd hc) _ p (Nat.ne_of_lt hlt) its.toArray, ⟨⟨_, Heap.get?_push_size _ rfl, rfl, rfl⟩, pl.isList.push _⟩, ?_, fun h' tk hk => ?_⟩
  · intro i v s Q E hP hQ
    rw [vals_bl rv i v hP]
    exact wpAny_truthy_bool hQ
  · rw [← hl, range_all]
    exact ⟨.bl (bs.all id), H, I.kept (old_kept hk), rfl, q⟩
theorem op_mul_str : OpR X (binaryOp .Mult) (fun x y H Q => ∃ z k, x = .str z ∧ y = .int k ∧ MulOk z k ∧ Q (.str (Txt.mul z k)) H) := by
  intro pins s σ H x y v u Q I rx ry h
  obtain ⟨z, k, rfl, rfl, ok, q⟩ := h
  obtain ⟨t, rfl⟩ := rx
  obtain ⟨t', rfl⟩ := ry
  exact SB.mul ok fun t2 k2 => ⟨.str _, H, I.tok k2, ⟨_, rfl⟩, q⟩
noncomputable def rRepS : R2 := fun x y H Q => ∃ l k xs, x = .ref l ∧ y = .int k ∧ Rd H l (.lst xs) ∧ -(2 ^ 63) ≤ k ∧ k < 2 ^ 63 ∧ xs.length * k.toNat ≤ sizeLine ∧
  ∀ p, H p = none → Q (.ref p) (upd H p (.lst (List.replicate k.toNat xs).flatten))
theorem op_repS : OpR X (binaryOp .Mult) rRepS := by
  intro pins s σ H x y v u Q I rx ry h
  obtain ⟨l, k, xs, rfl, rfl, hH, h1, h2, hz, q⟩ := h
  cases rx
  obtain ⟨t, rfl⟩ := ry
  obtain ⟨its, n, r, e, z⟩ := I.plain hH
  have hl := r.length
  have hlen : its.toArray.size * k.toNat ≤ sizeLine := by rw [List.size_toArray, ← hl]; exact hz
  have hcap : ¬ its.toArray.size * k.toNat > (2 ^ 63 - 1) / 8 := by
    have : (sizeLine : Nat) ≤ (2 ^ 63 - 1) / 8 := by decide
    omega
  have hfit : ¬ (!Builtin.List.listFitsIndex k) = true := by
    rw [fitsIndex_both h1 h2]
    exact Bool.false_ne_true
  have hlong : ¬ Builtin.List.listTooLong (its.toArray.size * k.toNat) = true := by
    rw [notLongL hlen]
    exact Bool.false_ne_true
  have hnew : List.foldl (fun x1 x2 => x1 ++ x2) #[] (List.replicate (if its.toArray.isEmpty = true then 0 else k.toNat) its.toArray) = (List.replicate k.toNat its).flatten.toArray := by
    have f0 : ∀ m : Nat, List.foldl (fun x1 x2 => x1 ++ x2) #[] (List.replicate m its.toArray) = (List.replicate m its).flatten.toArray := fun m => by
      have := foldl_rep its m []
      rw [List.nil_append] at this
      exact this
    rw [f0]
    cases its with
    | nil => simp
    | cons a r' => rw [if_neg (by simp)]
  refine wpAny_binaryOp_repeat_ref (T := "list") (U := "int") (by decide) ⟨_, e, rfl⟩ (fun s' => typeIs_int s' k t) noFill_list_mul F.fills_int_mul F.slot_int_rmul repeat_list F.slot_int_index.lookup
    (call_meets F.slot_int_rmul (typeIs_int s k t) F.entry_int_rmul (F.args_int_rmul_2 _ _) (int___rmul___int_list k t l its.toArray n)
      ⟨e, rfl, ⟨_, e, rfl⟩, call_meets F.slot_list_mul ⟨_, e, rfl⟩ F.entry_list_mul (F.args_list_mul_2 _ _) (AutoListH.list___mul___list_int_3 l its.toArray n k t hfit hcap hlong) ⟨e, ?_⟩⟩)
  rw [hnew]
  exact ⟨.ref _, _, I.lnew (t' := s.toks) (r.rep k.toNat) (by rw [len_rep, Nat.mul_comm]; exact hz), rfl, q _ I.fresh⟩
theorem sl_str : SlR X (fun x lo hi H Q => ∃ z, x = .str z ∧ z.length ≤ sizeLine ∧ Q (.str (Txt.slice z lo hi)) H) := by
  intro pins s σ H x v vl vu lo hi sl Q I rx hs pl pu h
  obtain ⟨z, rfl, hz, q⟩ := h
  obtain ⟨t, rfl⟩ := rx
  obtain ⟨o, h1, h2, h3⟩ := hs
  have fin : ∀ t' k, EP X pins σ Q (.str (Txt.slice z lo hi) t') { s with toks := k } := fun t' k => ⟨.str _, H, I.tok k, ⟨_, rfl⟩, q⟩
  refine ⟨"str", _, F.slot_str_getitem.lookup, typeIs_str _ _ _, ?_⟩
  have hl := Nat.le_trans (Txt.slice_le z lo hi) hz
  cases pl with
  | none =>
    cases pu with
    | none => exact wpAny_getItem_str_slice (l := none) (u := none) (st := none) ⟨o, h1, h2, h3⟩ rfl (post_val_or_str ⟨hl, fin⟩)
    | int j uj => exact wpAny_getItem_str_slice (l := none) (u := some (j, uj)) (st := none) ⟨o, h1, h2, h3⟩ rfl (post_val_or_str ⟨hl, fin⟩)
  | int i ui =>
    cases pu with
    | none => exact wpAny_getItem_str_slice (l := some (i, ui)) (u := none) (st := none) ⟨o, h1, h2, h3⟩ rfl (post_val_or_str ⟨hl, fin⟩)
    | int j uj => exact wpAny_getItem_str_slice (l := some (i, ui)) (u := some (j, uj)) (st := none) ⟨o, h1, h2, h3⟩ rfl (post_val_or_str ⟨hl, fin⟩)
end
end L2
namespace PySem
open AutoSeq1 (wpAny_loadPart')
set_option maxRecDepth 100000
noncomputable def kwS (t : Tok) : List (Str × Value) := [(Str.ofString "start", .int 1 t)]
set_option maxHeartbeats 4000000 in
theorem meets_enumerate_start (l : Addr) (items : Array Value) (n : Nat) (t : Tok) :
    Meets (Builtin.«enumerate.__new__» ⟨[.type "enumerate", .ref l], kwS t⟩) (fun _ R s => s.heap.get? l = some { cls := .type "list", dict := none, data := .seq items n, slots := #[] } ∧
      R (.ok (.ret (.ref (s.heap.push { cls := .type "list_iterator", data := .fields #[.ref l, .int 0 0] }).objs.size)))
        { s with heap := (s.heap.push { cls := .type "list_iterator", data := .fields #[.ref l, .int 0 0] }).push { cls := .type "enumerate", data := .fields #[.none, .bool false, .ref s.heap.objs.size, rawInt 1, .none, .none] } }) :=
  .of_wp fun prog w A R s h => by
    obtain ⟨hp, g, d, tk, os⟩ := s; obtain ⟨hl, h⟩ := h
    have hsub := sub_enumerate
    have hL : Heap.IsList (Shared.heap ⟨hp, g, d, tk, os⟩) l items := ⟨_, hl, rfl, n, rfl⟩
    unfold kwS
    wp_walk using wpAny_loadPart' hl
    refine wpAny_stack_any fun st => wpAny_pure ?_
    split
    · rename_i c _ _ _ _ _
      cases (c == Value.type "enumerate")
      · wp_walk using wpAny_loadPart' hl, wpAny_pyIter_list hL
        exact ⟨_, rfl, h⟩
      · wp_walk using wpAny_loadPart' hl, wpAny_pyIter_list hL
        exact ⟨_, rfl, h⟩
    · wp_walk using wpAny_loadPart' hl, wpAny_pyIter_list hL
      exact ⟨_, rfl, h⟩
section
variable {prog : Program} {w : World} {A : Around} {E : Value → Shared → Prop} {s : Shared}
end
end PySem
namespace L2
open PySem PySem.Spec PyProof.Rows
section
variable {X : Cx} {pins : List (Addr × Obj)} {σ : List (Option V)} {H : Hp} {s : Shared} {h' : Heap}
end
section
variable {X : Cx}
end
end L2
namespace DL
open PySem PySem.Spec PyProof.Rows L2
noncomputable def runP (body : DM Fl) (n : Nat) (ds : List D) : Ro := match body (ds.map .sh ++ List.replicate (n - ds.length) .no) with
  | .ok (.rt d) _ => .ok d
  | .ok (.rto es) _ => .own es
  | .ok .nx _ => .ok .non
  | _ => .un
section
variable {P : Program} {w : World} {K : PySem.W.Frag} {mg : Str → Option Value} {base : Heap} {H : Hp} {Ω : Om}
theorem RepS.start {N : List Str} {ds : List D} {vs : List V} (hr : Reps K H Ω ds vs) (ht : Trk H Ω) : RepS K H Ω (L2.start N vs) (ds.map .sh ++ List.replicate (N.length - ds.length) .no) := by
  have hl := hr.length
  refine ⟨by unfold L2.start; rw [List.length_append, List.length_append, List.length_map, List.length_map, List.length_replicate, List.length_replicate, hl], fun i s h => ?_, ht⟩
  by_cases hi : i < ds.length
  · rw [List.getElem?_append_left (by rw [List.length_map]; exact hi), List.getElem?_map] at h
    obtain ⟨d, hd⟩ : ∃ d, ds[i]? = some d := ⟨ds[i], List.getElem?_eq_getElem hi⟩
    rw [hd] at h
    cases h
    obtain ⟨v, hv, r⟩ := hr.get hd
    refine ⟨v, ?_, r⟩
    unfold L2.start
    rw [List.getElem?_append_left (by rw [List.length_map, ← hl]; exact hi), List.getElem?_map, hv]
    rfl
  · rw [List.getElem?_append_right (by rw [List.length_map]; omega), List.getElem?_replicate] at h
    split at h
    · cases h; trivial
    · cases h
theorem fnP {ce : Str → Value} {x qual : Str} {st : Stmt} {f : Addr} {fd : FuncData} {N ps : List Str} {k : Nat} {body : DM Fl} (F : Fun K x qual st f fd) (S : FnScope N ps (defScope st))
    (hb : ∀ (cdv : Value) (A : Around) (outer : List Env) (s : Shared) (H : Hp) (E : XK), Room k (A.deeper (envOfC qual (defScope st) s.heap.objs.size f cdv)) →
      PSsD (cxOf CX0 P w K mg base N qual (defScope st) f cdv A outer s H E).nox EN [] (defBody st) body) : FnOk P w K mg base CX0 (k + 1) f fd ps (spP K ce ps.length (runP body N.length)) := by
  refine F.ok S (fun vs H Q E h => h.1) (fun cdv A outer s H vs Q E hr h => ?_)
  obtain ⟨ts, p, d⟩ := hb cdv A outer s H E hr
  refine ⟨ts, p, ?_⟩
  obtain ⟨hl, Ω, ds, ht, h0, hr, hq⟩ := h
  refine d (L2.start N vs) H _ Ω (RepS.start hr ht) _ ?_
  unfold runP at hq
  cases e : body (ds.map .sh ++ List.replicate (N.length - ds.length) .no) with
  | un => rw [e] at hq; exact hq
  | er c => rw [e] at hq; exact hq.elim
  | ok fl δ' =>
    rw [e] at hq
    cases fl with
    | nx => exact fun H' Ω' ex σ' R' _ => hq H' Ω' ex R'.trk .non rfl
    | bk => exact hq.elim
    | ct => exact hq.elim
    | rt d => exact fun H' Ω' ex σ' R' _ v r => hq H' Ω' ex R'.trk v r
    | rto es => exact fun H' Ω' ex σ' R' _ v r => hq H' Ω' ex R'.trk v r
end
section
variable {X : Cx} {E : Str → Hp → Prop} {pos : Pos} {a b c e : Expr} {f g : DM DV} {mp : List Nat}
theorem ped_var (i : Nat) {x : Str} (hN : X.N[i]? = some x := by rfl) (hv : Vis X.env.scope x := by first | exact Or.inl rfl | exact Or.inr (Or.inl rfl) | exact Or.inr (Or.inr rfl)) (hd : (x == ("__debug__" : Str)) = false := by decide)
    (hcd : (x == ("__classdict__" : Str)) = false := by decide) : PED X E (.Name x pos) (fVar i) := ⟨_, pv i hN hv hd hcd, de_var⟩
theorem ped_int {i j} : PED X E (.Constant (.int i) j pos) (fC (.int i)) := ⟨_, pe_int, de_c fun _ _ => rfl⟩
theorem ped_bl {i j} : PED X E (.Constant (.bool i) j pos) (fC (.bl i)) := ⟨_, pe_bl, de_c fun _ _ => rfl⟩
theorem ped_non {j} : PED X E (.Constant .none j pos) (fC .non) := ⟨_, pe_non, de_c fun _ _ => rfl⟩
theorem ped_str {x j} : PED X E (.Constant (.str x) j pos) (fC (.str x)) := ⟨_, pe_str, de_c fun _ _ => rfl⟩
noncomputable def cmul (i j : Int) : Bool := (decide (-18446744073709551616 < i) && decide (i < 18446744073709551616)) || (decide (-18446744073709551616 < j) && decide (j < 18446744073709551616))
theorem cmul_ok {i j : Int} (h : cmul i j = true) : CMul i j := by
  unfold cmul at h
  unfold CMul
  simpa using h
noncomputable def cdiv (j : Int) : Bool := decide (0 < j) && decide (j < 1073741824)
noncomputable def gAdd : D → D → Option DV
  | .int i, .int j => some (.val (.int (i + j)))
  | .str x, .str y => if x.length + y.length ≤ sizeLine then some (.val (.str (x ++ y))) else none
  | .lst xs, .lst ys => if xs.length + ys.length ≤ sizeLine then some (.own (xs ++ ys)) else none
  | _, _ => none
noncomputable def gSub : D → D → Option DV
  | .int i, .int j => some (.val (.int (i - j)))
  | _, _ => none
noncomputable def mulok (n : Nat) (k : Int) : Bool := decide (-(2 ^ 62) ≤ k) && decide (k < 2 ^ 62) && decide (n * k.toNat ≤ sizeLine)
theorem mulok_ok {z : Str} {k : Int} (h : mulok z.length k = true) : MulOk z k := by
  unfold mulok at h
  simp only [Bool.and_eq_true, decide_eq_true_eq] at h
  obtain ⟨⟨h1, h2⟩, h3⟩ := h
  refine ⟨?_, ?_, ?_⟩
  · rw [decide_eq_false (by omega), decide_eq_false (by omega)]; rfl
  · intro hk _
    have hs : sizeLine ≤ 2 ^ 62 := by decide
    have h4 : (z.length : Int) * k ≤ 2 ^ 63 - 1 := by
      have e : ((z.length * k.toNat : Nat) : Int) = (z.length : Int) * k := by
        rw [Int.natCast_mul, Int.toNat_of_nonneg (by omega)]
      omega
    have : (z.length : Int) ≤ (2 ^ 63 - 1) / k := Int.le_ediv_of_mul_le (by omega) h4
    omega
  · intro _ _
    (show Builtin.Str.tooLong _ = false); unfold Builtin.Str.tooLong; exact decide_eq_false (by omega)
noncomputable def gMul : D → D → Option DV
  | .int i, .int j => if cmul i j then some (.val (.int (i * j))) else none
  | .str z, .int k => if mulok z.length k then some (.val (.str (Txt.mul z k))) else none
  | .lst ds, .int k => if mulok ds.length k then some (.own (List.replicate k.toNat ds).flatten) else none
  | _, _ => none
noncomputable def gDiv : D → D → Option DV
  | .int i, .int j => if cdiv j then some (.val (.int (i / j))) else none
  | _, _ => none
noncomputable def gMod : D → D → Option DV
  | .int i, .int j => if decide (0 < j) then some (.val (.int (i % j))) else none
  | _, _ => none
theorem rB_lst {K : PySem.W.Frag} {H : Hp} {Ω : Om} {ds : List D} {v : V} (h : RepB K H Ω (.lst ds) v) : ∃ a vs, v = .ref a ∧ Rd H a (.lst vs) ∧ Reps K H Ω ds vs := h
theorem rB_tup {K : PySem.W.Frag} {H : Hp} {Ω : Om} {ds : List D} {v : V} (h : RepB K H Ω (.tup ds) v) : ∃ a vs, v = .ref a ∧ SqT K H a vs ∧ Reps K H Ω ds vs := (show ∃ a vs, _ from h)
theorem dr_add {K : PySem.W.Frag} : DR K (fun x y H Q => rI0 (fun i j => .int (i + j)) x y H Q ∨ (∃ i j, x = .str i ∧ y = .str j ∧ i.length + j.length ≤ sizeLine ∧ Q (.str (i ++ j)) H) ∨ rCatS x y H Q) gAdd := by
  intro E σ H δ Ω x y d1 d2 z Q R r1 r2 hz h
  unfold gAdd at hz
  split at hz
  · cases hz
    exact .inl ⟨_, _, r1, r2, h.now R rfl⟩
  · split at hz
    · rename_i hl
      cases hz
      exact .inr (.inl ⟨_, _, r1, r2, hl, h.now R rfl⟩)
    · cases hz
  · split at hz
    · rename_i hl
      cases hz
      obtain ⟨a, vs, e1, e2, e3⟩ := rB_lst r1
      obtain ⟨b, ws, q1, q2, q3⟩ := rB_lst r2
      refine .inr (.inr ⟨a, b, vs, ws, e1, q1, e2, q2, by rw [← e3.length, ← q3.length]; exact hl, fun p hp => h.alloc1 R hp (e3.append q3)⟩)
    · cases hz
  · cases hz
noncomputable def BinD (X : Cx) (op : Operator) (gg : D → D → Option DV) : Prop := ∃ r, OpR X (binaryOp op) r ∧ DR X.K r gg
theorem bin_add : BinD X .Add gAdd := ⟨_, op_add.or (op_add_str.or op_catS), dr_add⟩
theorem bin_sub : BinD X .Sub gSub := ⟨_, op_sub, by
  intro E σ H δ Ω x y d1 d2 z Q R r1 r2 hz h
  unfold gSub at hz
  split at hz
  · cases hz; exact ⟨_, _, r1, r2, h.now R rfl⟩
  · cases hz⟩
theorem Reps.rep {K : PySem.W.Frag} {H : Hp} {Ω : Om} {ds : List D} {vs : List V} (r : Reps K H Ω ds vs) : ∀ k : Nat, Reps K H Ω (List.replicate k ds).flatten (List.replicate k vs).flatten
  | 0 => .nil
  | k + 1 => by
    rw [List.replicate_succ, List.replicate_succ, List.flatten_cons, List.flatten_cons]
    exact r.append (Reps.rep r k)
theorem bin_mul : BinD X .Mult gMul := ⟨_, op_mul.or (op_mul_str.or op_repS), by
  intro E σ H δ Ω x y d1 d2 z Q R r1 r2 hz h
  unfold gMul at hz
  split at hz
  · split at hz
    · rename_i hc
      cases hz; exact .inl ⟨_, _, r1, r2, cmul_ok hc, h.now R rfl⟩
    · cases hz
  · split at hz
    · rename_i hc
      cases hz; exact .inr (.inl ⟨_, _, r1, r2, mulok_ok hc, h.now R rfl⟩)
    · cases hz
  · split at hz
    · rename_i hc
      cases hz
      obtain ⟨a, vs, e1, e2, e3⟩ := rB_lst r1
      unfold mulok at hc
      simp only [Bool.and_eq_true, decide_eq_true_eq] at hc
      exact .inr (.inr ⟨a, _, vs, e1, r2, e2, by omega, by omega, by rw [← e3.length]; exact hc.2, fun p hp => h.alloc1 R hp (e3.rep _)⟩)
    · cases hz
  · cases hz⟩
theorem bin_div : BinD X .FloorDiv gDiv := ⟨_, op_fdiv, by
  intro E σ H δ Ω x y d1 d2 z Q R r1 r2 hz h
  unfold gDiv at hz
  split at hz
  · split at hz
    · rename_i hc
      cases hz
      unfold cdiv at hc
      exact ⟨_, _, r1, r2, (by simpa using hc : _ ∧ _), h.now R rfl⟩
    · cases hz
  · cases hz⟩
theorem bin_mod : BinD X .Mod gMod := ⟨_, op_mod, by
  intro E σ H δ Ω x y d1 d2 z Q R r1 r2 hz h
  unfold gMod at hz
  split at hz
  · split at hz
    · rename_i hc
      cases hz
      exact ⟨_, _, r1, r2, by simpa using hc, h.now R rfl⟩
    · cases hz
  · cases hz⟩
theorem ped_bin {op : Operator} {gg : D → D → Option DV} (ho : BinD X op gg) (ha : PED X E a f) (hb : PED X E b g) : PED X E (.BinOp a op b pos) (fBin f g gg) := by
  obtain ⟨r, h1, h2⟩ := ho
  obtain ⟨ta, p1, d1⟩ := ha
  obtain ⟨tb, p2, d2⟩ := hb
  exact ⟨_, pe_op h1 p1 p2, de_bin h2 d1 d2⟩
noncomputable def gCmp (p : Int → Int → Bool) : D → D → Option DV
  | .int i, .int j => some (.val (.bl (p i j)))
  | _, _ => none
theorem dr_cmp {K : PySem.W.Frag} {p : Int → Int → Bool} : DR K (rI0 fun i j => .bl (p i j)) (gCmp p) := by
  intro E σ H δ Ω x y d1 d2 z Q R r1 r2 hz h
  unfold gCmp at hz
  split at hz
  · cases hz; exact ⟨_, _, r1, r2, h.now R rfl⟩
  · cases hz
noncomputable def lt (i j : Int) : Bool := decide (i < j)
noncomputable def le (i j : Int) : Bool := decide (i ≤ j)
noncomputable def gt (i j : Int) : Bool := decide (j < i)
noncomputable def ge (i j : Int) : Bool := decide (j ≤ i)
noncomputable def CmpD (X : Cx) (op : CmpOp) (gg : D → D → Option DV) : Prop := ∃ r, OpR X (compareOp op) r ∧ DR X.K r gg
theorem cmp_lt : CmpD X .Lt (gCmp lt) := ⟨_, op_lt, dr_cmp (p := lt)⟩
theorem cmp_le : CmpD X .LtE (gCmp le) := ⟨_, op_le, dr_cmp (p := le)⟩
theorem cmp_gt : CmpD X .Gt (gCmp gt) := ⟨_, op_gt, dr_cmp (p := gt)⟩
theorem ped_cmp {op : CmpOp} {gg : D → D → Option DV} (ho : CmpD X op gg) (ha : PED X E a f) (hb : PED X E b g) (hm : behindInMarks op b = false) : PED X E (.Compare a [op] [b] pos) (fBin f g gg) := by
  obtain ⟨r, h1, h2⟩ := ho
  obtain ⟨ta, p1, d1⟩ := ha; obtain ⟨tb, p2, d2⟩ := hb
  exact ⟨_, pe_cmpR h1 p1 p2 hm, de_bin h2 d1 d2⟩
theorem ptd_cmp {op : CmpOp} {gg : D → D → Option DV} (ho : CmpD X op gg) (ha : PED X E a f) (hb : PED X E b g) (hm : behindInMarks op b = false) : PTD X E (.Compare a [op] [b] pos) (fTest (fBin f g gg)) := by
  obtain ⟨r, h1, h2⟩ := ho
  obtain ⟨ta, p1, d1⟩ := ha; obtain ⟨tb, p2, d2⟩ := hb
  exact ⟨_, pt_cmpR h1 p1 p2 hm, dt_test (de_bin h2 d1 d2)⟩
theorem pwd_and1 {fa : DM Bool} (ha : PTD X E a fa) : PWD X E (.BoolOp .And [a] pos) fa := by
  obtain ⟨t, p, d⟩ := ha; exact ⟨_, pw_and1 p, d⟩
theorem pwd_or1 {fa : DM Bool} (ha : PTD X E a fa) : PWD X E (.BoolOp .Or [a] pos) fa := by
  obtain ⟨t, p, d⟩ := ha; exact ⟨_, pw_or1 p, d⟩
theorem pwd_and {fa fb : DM Bool} {rest : List Expr} (ha : PTD X E a fa) (hb : PWD X E (.BoolOp .And (b :: rest) pos) fb) : PWD X E (.BoolOp .And (a :: b :: rest) pos) (fAndT fa fb) := by
  obtain ⟨t, p, d⟩ := ha; obtain ⟨u, q, e⟩ := hb; exact ⟨_, pw_and p q, dt_and d e⟩
theorem pwd_or {fa fb : DM Bool} {rest : List Expr} (ha : PTD X E a fa) (hb : PWD X E (.BoolOp .Or (b :: rest) pos) fb) : PWD X E (.BoolOp .Or (a :: b :: rest) pos) (fOrT fa fb) := by
  obtain ⟨t, p, d⟩ := ha; obtain ⟨u, q, e⟩ := hb; exact ⟨_, pw_or p q, dt_or d e⟩
theorem ptd_bool {fa : DM Bool} (h : PWD X E a fa) : PTD X E a fa := by
  obtain ⟨t, p, d⟩ := h; exact ⟨_, p.pt, d⟩
theorem ptd_not {fa : DM Bool} (ha : PTD X E a fa) : PTD X E (.UnaryOp .Not a pos) (fNotT fa) := by
  obtain ⟨t, p, d⟩ := ha; exact ⟨_, pt_not p, dt_not d⟩
theorem ped_one {op} (ha : PED X E a f) : PED X E (.BoolOp op [a] pos) f := by
  obtain ⟨t, p, d⟩ := ha; exact ⟨_, pe_one p, d⟩
theorem ped_and {rest : List Expr} (ha : PED X E a f) (hb : PED X E (.BoolOp .And (b :: rest) pos) g) : PED X E (.BoolOp .And (a :: b :: rest) pos) (fAndV f g) := by
  obtain ⟨t, p, d⟩ := ha; obtain ⟨u, q, e⟩ := hb; exact ⟨_, pe_and p q, de_and d e⟩
theorem ped_or {rest : List Expr} (ha : PED X E a f) (hb : PED X E (.BoolOp .Or (b :: rest) pos) g) : PED X E (.BoolOp .Or (a :: b :: rest) pos) (fOrV f g) := by
  obtain ⟨t, p, d⟩ := ha; obtain ⟨u, q, e⟩ := hb; exact ⟨_, pe_or p q, de_or d e⟩
theorem ptd_val (ha : PED X E a f) (he : ∀ whole, isTrue a X.env whole = (do let v ← whole; standAt a.pos; holding [v] (truthy v)) := by intro _; rfl) : PTD X E a (fTest f) := by
  obtain ⟨ta, p1, d1⟩ := ha
  exact ⟨_, pt_val p1 he, dt_tB d1⟩
noncomputable def gIx : D → D → Option DV
  | .lst ds, .int i => (atI ds i).map .val
  | .tup ds, .int i => (atI ds i).map .val
  | .str z, .int i => if z.length ≤ sizeLine then (atI z.cps.toList i).map fun c => .val (.str ⟨#[c]⟩) else none
  | .scr ns, .int i => (atI ns i).map fun n => .val (.int n)
  | _, _ => none
theorem atI_reps {K : PySem.W.Frag} {H : Hp} {Ω : Om} {ds : List D} {vs : List V} {i : Int} {d : D} (r : Reps K H Ω ds vs) (h : atI ds i = some d) : ∃ v, atI vs i = some v ∧ Rep K H Ω d v := by
  unfold atI at h ⊢
  rw [← r.length]
  cases e : ixN ds.length i with
  | none => rw [e] at h; cases h
  | some j => rw [e] at h; exact r.get h
theorem ped_ix (ha : PED X E a f) (hb : PED X E b g) (hs : PlainIx b := by intro _ _; rfl) : PED X E (.Subscript a b pos) (fBin f g gIx) := by
  obtain ⟨ta, p1, d1⟩ := ha
  obtain ⟨tb, p2, d2⟩ := hb
  refine ⟨_, pe_ix ix_seq p1 p2 hs, de_bin ?_ d1 d2⟩
  intro E σ H δ Ω x y d1 d2 z Q R r1 r2 hz h
  unfold gIx at hz
  split at hz
  · obtain ⟨d, e, rfl⟩ := Option.map_eq_some_iff.mp hz
    obtain ⟨p, vs, e1, e2, e3⟩ := rB_lst r1
    obtain ⟨v, q, rv⟩ := atI_reps e3 e
    exact .inl ⟨p, vs, _, v, e1, r2, .inl e2, q, h.now R rv⟩
  · obtain ⟨d, e, rfl⟩ := Option.map_eq_some_iff.mp hz
    obtain ⟨p, vs, e1, e2, e3⟩ := rB_tup r1
    obtain ⟨v, q, rv⟩ := atI_reps e3 e
    exact .inr (.inl ⟨p, vs, _, v, e1, r2, e2, q, h.now R rv⟩)
  · split at hz
    · rename_i hl
      obtain ⟨c, e, rfl⟩ := Option.map_eq_some_iff.mp hz
      exact .inr (.inr ⟨_, _, c, r1, r2, hl, e, h.now R rfl⟩)
    · cases hz
  · obtain ⟨n, e, rfl⟩ := Option.map_eq_some_iff.mp hz
    obtain ⟨p, e1, e2⟩ := (show ∃ a, _ from r1)
    refine .inl ⟨p, _, _, .int n, e1, r2, e2.sq, ?_, h.now R rfl⟩
    unfold atI at e ⊢
    rw [List.length_map]
    obtain ⟨j, h1, h2⟩ := Option.bind_eq_some_iff.mp e
    rw [h1]
    show (List.map V.int _)[j]? = _
    rw [List.getElem?_map, h2]
    rfl
  · cases hz
theorem pad_nil : PAD X E [] fNil := ⟨_, pa_nil, da_nil⟩
theorem pad_cons {es : List Expr} {r : DM (List DV)} (ha : PED X E e f) (hr : PAD X E es r) (hs : starEach (e :: es) X.env = (false, eval e X.env) :: starEach es X.env := by rfl) : PAD X E (e :: es) (fCons f r) := by
  obtain ⟨t, p, d⟩ := ha; obtain ⟨u, q, c⟩ := hr; exact ⟨_, pa_cons p q hs, da_cons d c⟩
theorem ped_tup {es : List Expr} {r : DM (List DV)} {k : Nat} (h : PAD X E es r) : PED X E (.Tuple es k pos) (fTup r) := by
  obtain ⟨t, p, d⟩ := h; exact ⟨_, pe_tup p, de_tup d⟩
theorem ped_lst {es : List Expr} {r : DM (List DV)} (h : PAD X E es r) : PED X E (.List es pos) (fLst r) := by
  obtain ⟨t, p, d⟩ := h; exact ⟨_, pe_lst p, de_lst d⟩
structure DefP (P : Program) (w : World) (K : PySem.W.Frag) (mg : Str → Option Value) (base : Heap) (k : Nat) (x : Str) (n : Nat) (M : List D → Ro) : Prop where
  ex : ∃ (f : Addr) (fd : FuncData) (ps : List Str), FnOk P w K mg base CX0 k f fd ps (spP K (fun _ => .none) n M) ∧ mg x = some (.ref f) ∧ PySem.W.keepIn K (.ref f) = true ∧ Binds K fd ps []
theorem ped_call {k n : Nat} {x : Str} {M : List D → Ro} {p : Pos} {es : List Expr} {r : DM (List DV)} (F : DefP X.prog X.w X.K X.mg X.base k x n M) (hr : Room k X.A) (ha : PAD X EN (e :: es) r) (hg : Gl X x := by rfl)
    (hdb : (x == ("__debug__" : Str)) = false := by decide) (he : starEach (e :: es) X.env = (false, eval e X.env) :: starEach es X.env := by rfl) (hpl : (backTo pos (starEach es X.env)).any (·.1) = false := by rfl) :
    PED X EN (.Call (.Name x p) (e :: es) [] pos) (fCall n r M) := by
  obtain ⟨fa, fd, ps, F, hm, kp, b⟩ := F.ex
  obtain ⟨t, q, d⟩ := ha
  exact ⟨_, pe_call F hr hg hm kp b .nil pass0 q hdb he hpl, de_call (fun _ _ z => z) d⟩
noncomputable def CallD (X : Cx) (fv : Value) (gg : List D → Option DV) : Prop := ∃ r, CallR X fv r ∧ DC X.K r gg
theorem ped_cb {id : String} {gg : List D → Option DV} {x : Str} {p : Pos} {es : List Expr} {r : DM (List DV)} (hc : CallD X (.builtin id) gg) (hm : X.mg x = none) (hv : bootBuiltins x = some (.builtin id)) (ha : PAD X E (e :: es) r) (hg : Gl X x := by rfl)
    (hn : x ≠ "__name__" := by decide) (hdb : (x == ("__debug__" : Str)) = false := by decide) (he : starEach (e :: es) X.env = (false, eval e X.env) :: starEach es X.env := by rfl) (hpl : (backTo pos (starEach es X.env)).any (·.1) = false := by rfl) :
    PED X E (.Call (.Name x p) (e :: es) [] pos) (fCB r gg) := by
  obtain ⟨rr, h1, h2⟩ := hc
  obtain ⟨t, q, d⟩ := ha
  exact ⟨_, pe_callB h1 hg hm hv q hn hdb he hpl, de_cb h2 d⟩
theorem ped_cty {T : String} {gg : List D → Option DV} {x : Str} {p : Pos} {es : List Expr} {r : DM (List DV)} (hc : CallD X (.type T) gg) (hm : X.mg x = none) (hv : bootBuiltins x = some (.type T)) (ha : PAD X E (e :: es) r) (hg : Gl X x := by rfl)
    (hn : x ≠ "__name__" := by decide) (hdb : (x == ("__debug__" : Str)) = false := by decide) (he : starEach (e :: es) X.env = (false, eval e X.env) :: starEach es X.env := by rfl) (hpl : (backTo pos (starEach es X.env)).any (·.1) = false := by rfl) :
    PED X E (.Call (.Name x p) (e :: es) [] pos) (fCB r gg) := by
  obtain ⟨rr, h1, h2⟩ := hc
  obtain ⟨t, q, d⟩ := ha
  exact ⟨_, pe_callTy h1 hg hm hv q hn hdb he hpl, de_cb h2 d⟩
theorem rBs_one {K : PySem.W.Frag} {H : Hp} {Ω : Om} {d : D} {vs : List V} (h : RepBs K H Ω [d] vs) : ∃ v, vs = [v] ∧ RepB K H Ω d v := by
  obtain ⟨v, r, e1, e2, e3⟩ := h
  cases (show r = [] from e3)
  exact ⟨v, e1, e2⟩
noncomputable def gLen : List D → Option DV
  | [.lst ds] => some (.val (.int ds.length))
  | [.tup ds] => some (.val (.int ds.length))
  | [.str x] => if x.length ≤ sizeLine then some (.val (.int x.length)) else none
  | [.scr ns] => some (.val (.int ns.length))
  | _ => none
theorem cb_len : CallD X (.builtin "len") gLen := ⟨_, call_len, by
  intro E σ H δ Ω vs ds z Q R r hz h
  unfold gLen at hz
  split at hz
  · cases hz
    obtain ⟨v, e, rv⟩ := rBs_one r
    obtain ⟨a, ws, e1, e2, e3⟩ := rB_lst rv
    subst e1
    exact ⟨.ref a, ws.length, e, .inl ⟨ws, .inl e2, rfl⟩, by rw [← e3.length]; exact h.now R rfl⟩
  · cases hz
    obtain ⟨v, e, rv⟩ := rBs_one r
    obtain ⟨a, ws, e1, e2, e3⟩ := rB_tup rv
    subst e1
    exact ⟨.ref a, ws.length, e, .inr ⟨ws, e2, rfl⟩, by rw [← e3.length]; exact h.now R rfl⟩
  · split at hz
    · rename_i x hl
      cases hz
      obtain ⟨v, e, rv⟩ := rBs_one r
      cases (show v = .str x from rv)
      exact ⟨.str x, x.length, e, ⟨hl, rfl⟩, h.now R rfl⟩
    · cases hz
  · rename_i ns
    cases hz
    obtain ⟨v, e, rv⟩ := rBs_one r
    obtain ⟨p, e1, e2⟩ := (show ∃ a, _ from rv)
    subst e1
    exact ⟨.ref p, ns.length, e, .inl ⟨_, e2.sq, by rw [List.length_map]⟩, h.now R rfl⟩
  · cases hz⟩
noncomputable def gStr : List D → Option DV
  | [.int i] => if i.natAbs.log2 < 1920 then some (.val (.str (Str.ofString (toString i)))) else none
  | [.str x] => some (.val (.str x))
  | _ => none
noncomputable def gList : List D → Option DV
  | [.lst ds] => some (.own ds)
  | [.tup ds] => some (.own ds)
  | _ => none
theorem cb_list : CallD X (.type "list") gList := ⟨_, call_list_of, by
  intro E σ H δ Ω vs ds z Q R r hz h
  unfold gList at hz
  split at hz
  · cases hz
    obtain ⟨v, e, rv⟩ := rBs_one r
    obtain ⟨a, ws, e1, e2, e3⟩ := rB_lst rv
    subst e1
    exact ⟨a, ws, e, .inl (.inl e2), fun p hp => h.alloc1 R hp e3⟩
  · cases hz
    obtain ⟨v, e, rv⟩ := rBs_one r
    obtain ⟨a, ws, e1, e2, e3⟩ := rB_tup rv
    subst e1
    exact ⟨a, ws, e, .inr e2, fun p hp => h.alloc1 R hp e3⟩
  · cases hz⟩
noncomputable def tyD : D → String
  | .non => "NoneType" | .bl _ => "bool" | .int _ => "int" | .str _ => "str" | .tup _ => "tuple" | .lst _ => "list" | .scr _ => "list" | .exc _ => "" | .key _ _ => "" | .obj _ _ _ _ => ""
noncomputable def isTs : List String := ["int", "bool", "str", "list", "tuple"]
noncomputable def isExc : D → Bool
  | .exc _ => true
  | .key _ _ => true
  | .obj _ _ _ _ => true
  | _ => false
noncomputable def isD (T : String) (d : D) : Option Bool := if isExc d then none else if isTs.contains T then some (tyD d == T || (tyD d == "bool" && T == "int")) else none
end
end DL
namespace DL
open PySem PySem.Spec PyProof.Rows L2
section
variable {X : Cx} {E : Str → Hp → Prop} {pos : Pos} {a b c e : Expr} {f g : DM DV} {mp : List Nat}
noncomputable def kitF (A B : String) : Option Bool := if (Value.type A == Value.type B) = true then some true else if PySem.W.kitMeta B = true then (fastBuiltinMro A).map (·.contains (Value.type B)) else none
theorem kit_all : (isTs.all fun T => ["NoneType", "bool", "int", "str", "tuple", "list"].all fun A => kitF A T == some (A == T || (A == "bool" && T == "int"))) = true := by decide +kernel
theorem kit_of {K : PySem.W.Frag} {T : String} {d : D} {bb : Bool} (h : isD T d = some bb) : PySem.W.kitOne K (.type (tyD d)) (.type T) = some bb := by
  unfold isD at h
  split at h
  · cases h
  rename_i hE
  split at h
  · rename_i hT
    cases h
    have h1 := List.all_eq_true.mp kit_all T (List.contains_iff_mem.mp hT)
    have h2 := List.all_eq_true.mp h1 (tyD d) (by cases d <;> first | exact absurd rfl hE | simp [tyD])
    exact (beq_iff_eq.mp h2 : kitF (tyD d) T = _)
  · cases h
theorem tyD_of {K : PySem.W.Frag} {H : Hp} {Ω : Om} {d : D} {x : V} {T : String} {bb : Bool} (h : RepB K H Ω d x) (hd : isD T d = some bb) : TyD K H x (tyD d) := by
  cases d with
  | non => cases (show x = .non from h); exact .non
  | bl y => cases (show x = .bl y from h); exact .bl y
  | int y => cases (show x = .int y from h); exact .int y
  | str y => cases (show x = .str y from h); exact .str y
  | tup ds => obtain ⟨p, vs, e1, e2, e3⟩ := rB_tup h; subst e1; exact .tup e2
  | lst ds => obtain ⟨p, vs, e1, e2, e3⟩ := rB_lst h; subst e1; exact .lst (.inl e2)
  | scr ns => obtain ⟨p, e1, e2⟩ := (show ∃ a, _ from h); subst e1; exact .lst e2.sq
  | exc c => cases hd
  | key r n => cases hd
  | obj _ _ _ _ => cases hd
noncomputable def gIs (T : String) (d : D) : Option DV := (isD T d).map fun bb => .val (.bl bb)
theorem ped_isi {T : String} {x : Str} {p p2 : Pos} (hm : X.mg "isinstance" = none) (hm2 : X.mg x = none) (hv : bootBuiltins x = some (.type T)) (ha : PED X E e f) (hg : Gl X "isinstance" := by rfl) (hg2 : Gl X x := by rfl)
    (hn : x ≠ "__name__" := by decide) (hdb : (x == ("__debug__" : Str)) = false := by decide)
    (hs : starEach [e, .Name x p2] X.env = (false, eval e X.env) :: starEach [.Name x p2] X.env := by rfl) (hs2 : starEach [.Name x p2] X.env = (false, eval (.Name x p2) X.env) :: starEach [] X.env := by rfl)
    (hpl : (backTo pos (starEach [.Name x p2] X.env)).any (·.1) = false := by rfl) :
    PED X E (.Call (.Name "isinstance" p) [e, .Name x p2] [] pos) (fUn f (gIs T)) := by
  obtain ⟨t, q, d⟩ := ha
  refine ⟨_, pe_callB call_isinst hg hm boot_isinstance (pa_cons q (pa_cons (pe_bltn (v := .ty T) hg2 hm2 hv rfl hn hdb) pa_nil hs2) hs) (by decide) (by decide) hs hpl, ?_⟩
  intro σ H δ Ω R Q h
  refine d.use R h fun a1 x δ1 H1 Ω1 _ s1 R1 r1 h1 => ?_
  (try dsimp only at h1)
  cases q1 : res δ1 a1 with
  | none => rw [q1] at h1; exact h1.elim
  | some d1 =>
    rw [q1] at h1
    (try dsimp only at h1)
    cases q3 : isD T d1 with
    | none =>
      unfold gIs at h1
      rw [q3] at h1
      exact h1.elim
    | some bb =>
      unfold gIs at h1
      rw [q3] at h1
      exact ⟨x, T, tyD d1, bb, rfl, tyD_of (r1.res R1 q1) q3, kit_of q3, Wg.now (d := .val (.bl bb)) h1 R1 rfl⟩
noncomputable def MtD (X : Cx) (T id : String) (gg : D → List D → Option DV) : Prop := ∃ r, MtR X id r ∧ ∀ {E : Str → Hp → Prop} {σ : St} {H : Hp} {δ : DSt} {Ω : Om} {x : V} {vs : List V} {d : D} {ds : List D} {z : DV} {Q : VK},
  RepS X.K H Ω σ δ → RepB X.K H Ω d x → RepBs X.K H Ω ds vs → gg d ds = some z → Wg E H Ω (PV X.K σ Q) (.ok z δ) → r x vs H Q
noncomputable def fBM (fo : DM DV) (fa : DM (List DV)) (gg : D → List D → Option DV) : DM DV := (fN fo).bd fun o => fun δ0 => match res δ0 o with
  | some (.str _) => (fa.bd fun as => fun δ => match res δ o, resAll δ as with
    | some d, some ds => (match gg d ds with | some r => .ok r δ | none => .un)
    | _, _ => .un) δ0
  | _ => .un
theorem ped_bm {id : String} {o : Expr} {es : List Expr} {name : Str} {apos cpos : Pos} {fo : DM DV} {fa : DM (List DV)} {gg : D → List D → Option DV} (hm : MtD X "str" id gg) (slot : Slot "str" name id) (hty : typeOf (.builtin id) = pure (.type "method_descriptor"))
    (ho : PED X E o fo) (ha : PAD X E (e :: es) fa)
    (hbase : attributeBase o name X.env (eval o X.env) = eval o X.env := by rfl)
    (hfew : ((backTo cpos (starEach (e :: es) X.env)).all (fun x => !x.1) && (backToKw cpos (keywordEach [] X.env)).all (fun x => x.1.isSome)
      && decide ((e :: es).length + ([] : List Keyword).length + (if ([] : List Keyword).isEmpty then 0 else 1) < 30)) = true := by rfl)
    (hline : (apos.endLine == cpos.line) = true := by rfl) (hs : starEach (e :: es) X.env = (false, eval e X.env) :: starEach es X.env := by rfl) (hplain : (backTo cpos (starEach es X.env)).any (·.1) = false := by rfl) :
    PED X E (.Call (.Attribute o name apos) (e :: es) [] cpos) (fBM fo fa gg) := by
  obtain ⟨r, h1, h2⟩ := hm
  obtain ⟨to, p1, d1⟩ := ho
  obtain ⟨ta, p2, d2⟩ := ha
  refine ⟨_, pe_bm PySem.F.plainAttrs_str slot hty h1 p1 p2 hbase hfew hline hs hplain, ?_⟩
  intro σ H δ Ω R Q h
  refine d1.use R h fun a1 x δ1 H1 Ω1 _ s1 R1 r1 h1 => ?_
  (try dsimp only at h1)
  split at h1
  · rename_i z q1
    have ty : tyV X.K "str" x H1 := by
      have rb := r1.res R1 q1
      cases (show x = .str z from rb)
      exact rfl
    refine ⟨ty, d2.use R1 h1 fun as vs δ2 H2 Ω2 e2 s2 R2 r2 h3 => ?_⟩
    (try dsimp only at h3)
    cases q2 : res δ2 a1 with
    | none => rw [q2] at h3; exact h3.elim
    | some dd =>
      cases q3 : resAll δ2 as with
      | none => rw [q2, q3] at h3; exact h3.elim
      | some ds =>
        rw [q2, q3] at h3
        (try dsimp only at h3)
        cases q4 : gg dd ds with
        | none => rw [q4] at h3; exact h3.elim
        | some z =>
          rw [q4] at h3
          exact h2 R2 ((r1.ext s1 e2).res R2 q2) (r2.all R2 q3) q4 h3
  · exact h1.elim
noncomputable def strsOf : List D → Option (List Str)
  | [] => some []
  | .str x :: r => (strsOf r).map fun xs => x :: xs
  | _ :: _ => none
noncomputable def gJoin : D → List D → Option DV
  | .str sep, [.lst ds] => (strsOf ds).bind fun ys => if (ys.map (·.length)).sum + ys.length * sep.length ≤ 16777216 then some (.val (.str (Txt.join sep ys))) else none
  | _, _ => none
section
variable {tg iter elt : Expr} {ifs : List Expr} {sc : Scope} {fi : DM (List D)} {t : D → DSt → Option DSt} {fc : DM Bool} {fe : DM DV} {N : List Str} {sel : List (Option Nat)}
noncomputable def PID (X : Cx) (E : Str → Hp → Prop) (tg iter : Expr) (fi : DM (List D)) : Prop := ∃ wi, PI X tg iter wi ∧ DI X.K E wi fi
noncomputable def PGD (X : Cx) (mp : List Nat) (tg : Expr) (t : D → DSt → Option DSt) : Prop := ∃ g, PG X tg g ∧ DG X.K mp g t
noncomputable def PTsD (X : Cx) (ifs : List Expr) (fc : DM Bool) : Prop := ∃ ts, PTs X ifs ts ∧ DT X.K EN ts fc
theorem pid_list (ha : PED X E a f) : PID X E tg a (fIt f gLstItems) := by
  obtain ⟨t, p, d⟩ := ha; exact ⟨_, pi_list p, di_list d⟩
theorem pid_rng1 {r : DM (List DV)} {p : Pos} (hm : X.mg "range" = none) (ha : PAD X E [a] r) (hg : Gl X "range" := by rfl) (hs : starEach [a] X.env = [(false, eval a X.env)] := by rfl) : PID X E tg (.Call (.Name "range" p) [a] [] pos) (fRng1 r) := by
  obtain ⟨t, q, d⟩ := ha; exact ⟨_, pi_range1 hg hm q hs, di_rng1 d⟩
theorem pid_rng2 {r : DM (List DV)} {p : Pos} (hm : X.mg "range" = none) (ha : PAD X E [a, b] r) (hg : Gl X "range" := by rfl) (hs : starEach [a, b] X.env = [(false, eval a X.env), (false, eval b X.env)] := by rfl)
    (hs2 : starEach [b] X.env = [(false, eval b X.env)] := by rfl) : PID X E tg (.Call (.Name "range" p) [a, b] [] pos) (fRng2 r) := by
  obtain ⟨t, q, d⟩ := ha; exact ⟨_, pi_range2 hg hm q hs hs2, di_rng2 d⟩
theorem pgd_name {i : Nat} {x : Str} (hN : X.N.Nodup) (hi : X.N[i]? = some x := by rfl) (hx : Loc X.env.scope x := by first | exact Or.inl rfl | exact Or.inr rfl) (hm : i ∉ mp := by decide)
    (hf : X.fn x = true ∨ X.env.scope.names.lookup x = some .local := by first | exact .inl rfl | exact .inr rfl) : PGD X mp (.Name x pos) (sName i) := ⟨_, pg_name hN hi hx hf, dg_name hm⟩
theorem ptsd_nil : PTsD X [] (.ret true) := ⟨_, pts_nil, fun σ H δ Ω R Q h => Wg.nowB h R⟩
theorem ped_lc (B : Blk X N sel sc) (hc : X.calm = true) (hi : PID X E tg iter fi) (hg : ∀ b, PGD (blk X N sc b) [] tg t) (ht : ∀ b, PTsD (blk X N sc b) ifs fc) (he : ∀ b, PED (blk X N sc b) EN elt fe)
    (hs : ∀ x, foldedSetIterable iter X.env x = pure x := by intro _; rfl) : PED X E (.ListComp elt [⟨tg, iter, ifs, 0⟩] sc pos) (fLC fi t fc fe sel) := by
  obtain ⟨wi, p, d⟩ := hi
  refine ⟨_, pe_lc (g := fun v σ H Q => ∀ b, (hg b).choose v σ H Q) (ts := fun σ H Q => ∀ b, (ht b).choose σ H Q) (te := fun σ H Q => ∀ b, (he b).choose σ H Q) B hc p
    (fun b pins s σ H v u Q I r h => (hg b).choose_spec.1 pins s σ H v u Q I r (h b)) (fun b pins s σ H Q I h => (ht b).choose_spec.1 pins s σ H Q I (h b)) (fun b pins s σ H Q I h => (he b).choose_spec.1 pins s σ H Q I (h b)) hs,
    de_lc d (fun σ H δ Ω dd x δ' R r e Q h b => (hg b).choose_spec.2 σ H δ Ω dd x δ' R r e Q h) (fun σ H δ Ω R Q h b => (ht b).choose_spec.2 σ H δ Ω R Q h) (fun σ H δ Ω R Q h b => (he b).choose_spec.2 σ H δ Ω R Q h)⟩
end
theorem psd_nil : PSsD X E mp [] fNext := ⟨_, pss_nil, ds_next⟩
theorem psd_cons {st : Stmt} {rest : List Stmt} {f1 f2 : DM Fl} (h1 : PSD X E mp st f1) (h2 : PSsD X E mp rest f2) : PSsD X E mp (st :: rest) (fSeq f1 f2) := by
  obtain ⟨t, p, d⟩ := h1; obtain ⟨u, q, r⟩ := h2; exact ⟨_, pss_cons p q, ds_seq d r⟩
theorem psd_one {st : Stmt} {f1 : DM Fl} (h1 : PSD X E mp st f1) : PSsD X E mp [st] f1 := by
  obtain ⟨t, p, d⟩ := h1; exact ⟨_, pss_one p, d⟩
theorem psd_ret (h : PED X E e f) : PSD X E mp (.Return (some e) pos) (fRet f) := by
  obtain ⟨t, p, d⟩ := h; exact ⟨_, ps_ret p, ds_ret d⟩
theorem psd_if {fc : DM Bool} {s1 s2 : List Stmt} {f1 f2 : DM Fl} (hc : PTD X E c fc) (h1 : PSsD X E mp s1 f1) (h2 : PSsD X E mp s2 f2) : PSD X E mp (.If c s1 s2 pos) (fIf fc f1 f2) := by
  obtain ⟨t, p, d⟩ := hc; obtain ⟨t1, p1, d1⟩ := h1; obtain ⟨t2, p2, d2⟩ := h2
  exact ⟨_, ps_if p p1 p2, ds_if d d1 d2⟩
theorem psd_set (i : Nat) {x : Str} {pos' : Pos} (hN : X.N.Nodup) (he : PED X E e f) (hi : X.N[i]? = some x := by rfl) (hx : Loc X.env.scope x := by first | exact Or.inl rfl | exact Or.inr rfl) (hm : i ∉ mp := by decide)
    (hs : swapsWith e (some (.Name x pos')) pos.line X.env = pure false := by rfl) (hf : X.fn x = true ∨ X.env.scope.names.lookup x = some .local := by first | exact .inl rfl | exact .inr rfl) : PSD X E mp (.Assign [.Name x pos'] e pos) (fSet i f) := by
  obtain ⟨t, p, d⟩ := he; exact ⟨_, ps_set hN hi hx p hs hf, ds_set hm d⟩
theorem psd_setO (i : Nat) {x : Str} {pos' : Pos} (hN : X.N.Nodup) (he : PED X E e f) (hi : X.N[i]? = some x := by rfl) (hx : Loc X.env.scope x := by first | exact Or.inl rfl | exact Or.inr rfl) (hm : i ∉ mp := by decide)
    (hs : swapsWith e (some (.Name x pos')) pos.line X.env = pure false := by rfl) (hf : X.fn x = true ∨ X.env.scope.names.lookup x = some .local := by first | exact .inl rfl | exact .inr rfl) : PSD X E mp (.Assign [.Name x pos'] e pos) (fSetO i f) := by
  obtain ⟨t, p, d⟩ := he; exact ⟨_, ps_set hN hi hx p hs hf, ds_setO hm d⟩
theorem psd_for {tg iter : Expr} {body : List Stmt} {fi : DM (List D)} {t : D → DSt → Option DSt} {fb : DM Fl} (hp : PassesOwn (model X.prog X.w) X.A X.env X.xe) (hc : X.calm = true) (hi : PID X E tg iter fi) (hg : PGD X mp tg t) (hb : PSsD X E mp body fb)
    (hs : ∀ x, foldedSetIterable iter X.env x = pure x := by intro _; rfl) : PSD X E mp (.For tg iter body [] pos) (fFor fi t fb) := by
  obtain ⟨wi, p1, d1⟩ := hi; obtain ⟨g, p2, d2⟩ := hg; obtain ⟨ts, p3, d3⟩ := hb
  exact ⟨_, ps_for hp hc p1 p2 p3 hs, ds_for d1 d2 d3⟩
theorem psd_while {body : List Stmt} {fc : DM Bool} {fb : DM Fl} (n : Nat) (hp : PassesOwn (model X.prog X.w) X.A X.env X.xe) (hc : PTD X E c fc) (hb : PSsD X E mp body fb) : PSD X E mp (.While c body [] pos) (whileD fc fb n) := by
  obtain ⟨t, p1, d1⟩ := hc; obtain ⟨ts, p3, d3⟩ := hb
  exact ⟨_, ps_while hp p1 p3, ds_while n d1 d3⟩
noncomputable def fApp (i : Nat) (f : DM DV) : DM Fl := (fN f).bd fun a δ => match a, δ[i]? with
  | .val d, some (.ow ds) => if ds.length < sizeLine then .ok .nx (δ.set i (.ow (ds ++ [d]))) else .un
  | _, _ => .un
noncomputable def isOw (i : Nat) (δ : DSt) : Bool := match δ[i]? with | some (.ow _) => true | _ => false
noncomputable def fApp' (i : Nat) (f : DM DV) : DM Fl := fun δ => if isOw i δ then fApp i f δ else .un
section
variable {K : PySem.W.Frag} {H : Hp} {Ω : Om} {σ : St} {δ : DSt}
theorem RepS.putOw {i : Nat} {p : Addr} {xs : List V} {es : List D} (R : RepS K H Ω σ δ) (hσ : σ[i]? = some (some (.ref p))) (hl : ∃ vs, H p = some vs ∧ fixO vs = false) (hp : Ω p = some (i + 2)) (r : Reps K H Ω es xs) : RepS K (upd H p (.lst xs)) Ω σ (δ.set i (.ow es)) := by
  have hp' : Ω p ≠ none := by rw [hp]; exact Option.some_ne_none _
  refine ⟨by rw [List.length_set]; exact R.len, fun j s h => ?_, fun a k q => ?_⟩
  · by_cases hj : i = j
    · subst hj
      have hl' : i < δ.length := by
        have := (List.getElem?_eq_some_iff.mp h).1
        rwa [List.length_set] at this
      rw [List.getElem?_set_self hl'] at h
      cases h
      exact ⟨p, xs, by rw [hσ]; rfl, upd_same, hp, r.put hl hp'⟩
    · rw [List.getElem?_set_ne hj] at h
      refine (R.sl j s h).mv (fun _ _ z => z.put hl hp') (fun _ _ z => z.put hl hp') fun a ws e3 e2 => ?_
      have ha : a ≠ p := by
        rintro rfl
        rw [hp] at e3
        exact hj (by have := Option.some.inj e3; omega)
      exact ⟨by rw [upd_ne ha]; exact e2, e3⟩
  · by_cases ha : a = p
    · subst ha; exact ⟨_, upd_same, rfl⟩
    · obtain ⟨ws, e, f⟩ := R.trk a k q
      exact ⟨ws, by rw [upd_ne ha]; exact e, f⟩
theorem Ext.putOw {p : Addr} {k : Nat} {o : HO} (hl : ∃ vs, H p = some vs ∧ fixO vs = false) (hp : Ω p = some (k + 1)) : Ext H Ω (upd H p o) Ω where
  keep := fun b o' q h => by
    have hb : b ≠ p := by
      rintro rfl
      obtain ⟨vs, e, f⟩ := hl
      rw [e] at q
      cases q
      rcases h with h | h | h
      · rw [f] at h; cases h
      · rw [hp] at h; cases h
      · rw [hp] at h; cases h
    rw [upd_ne hb]
    exact q
  new := fun _ q _ => q
  fr := fun _ => Iff.rfl
  live := fun b q => by
    unfold upd at q
    split at q
    · cases q
    · exact q
end
theorem psd_app (i : Nat) {x : Str} {p apos cpos : Pos} (he : PED X E e f) (hN : X.N[i]? = some x := by rfl) (hv : Vis X.env.scope x := by first | exact Or.inl rfl | exact Or.inr (Or.inl rfl) | exact Or.inr (Or.inr rfl))
    (hd : (x == ("__debug__" : Str)) = false := by decide) (hcd : (x == ("__classdict__" : Str)) = false := by decide)
    (hbase : attributeBase (.Name x p) "append" X.env (eval (.Name x p) X.env) = eval (.Name x p) X.env := by rfl)
    (hfew : ((backTo cpos (starEach [e] X.env)).all (fun x => !x.1) && (backToKw cpos (keywordEach [] X.env)).all (fun x => x.1.isSome)
      && decide (([e] : List Expr).length + ([] : List Keyword).length + (if ([] : List Keyword).isEmpty then 0 else 1) < 30)) = true := by rfl)
    (hline : (apos.endLine == cpos.line) = true := by rfl) (hs : starEach [e] X.env = (false, eval e X.env) :: starEach [] X.env := by rfl)
    (hsw : swapsWith (.Call (.Attribute (.Name x p) "append" apos) [e] [] cpos) none pos.line X.env = pure false := by rfl) :
    PSD X E mp (.Expr (.Call (.Attribute (.Name x p) "append" apos) [e] [] cpos) pos) (fApp' i f) := by
  obtain ⟨t, q, d⟩ := he
  refine ⟨_, ps_expr (pe_bm PySem.F.plainAttrs_list PySem.F.slot_list_append PySem.F.type_list_append mt_append (pv i hN hv hd hcd) (pa_cons q pa_nil hs) hbase hfew hline hs rfl) hsw, ?_⟩
  intro σ H δ Ω R B h
  unfold fApp' at h
  split at h
  · rename_i ho
    unfold isOw at ho
    split at ho
    · rename_i ds hds
      obtain ⟨a, vs, e1, e2, e3, e4⟩ := R.sl i _ hds
      refine ⟨.ref a, join_some e1, .inl ⟨rfl, vs, SqL.of e2⟩, d.use R h fun a1 y δ1 H1 Ω1 ex s1 R1 r1 h1 => ?_⟩
      (try dsimp only at h1)
      split at h1
      · rename_i dd es hds1
        split at h1
        · rename_i hz
          obtain ⟨a', ws, q1, q2, q3, q4⟩ := R1.sl i _ hds1
          have ea : a' = a := by
            have z := (join_some q1).symm.trans (join_some e1)
            injection z with z
            injection z with z
            injection z
          subst ea
          refine ⟨a', ws, y, rfl, rfl, q2, by rw [← q4.length]; exact hz, ?_⟩
          exact h1 _ Ω1 (.putOw (k := i + 1) ⟨_, q2, rfl⟩ q3) σ (R1.putOw (join_some q1) ⟨_, q2, rfl⟩ q3 (q4.append (.cons r1 .nil))) fun _ _ => rfl
        · exact h1.elim
      · exact h1.elim
    · cases ho
  · exact h.elim
end
end DL
namespace DL
open PySem PySem.Spec PyProof.Rows L2
noncomputable def eqsF (f : D → D → Option Bool) : List D → List D → Option Bool
  | [], [] => some true
  | x :: xs, y :: ys => match f x y, eqsF f xs ys with | some a, some b => some (a && b) | _, _ => none
  | [], _ :: _ => some false
  | _ :: _, [] => some false
noncomputable def oth : D → Option Bool
  | .scr _ => none
  | .exc _ => none
  | .key _ _ => none
  | .obj _ _ _ _ => none
  | _ => some false
noncomputable def deqB (g : List D → List D → Option Bool) : D → D → Option Bool
  | .non, d => (match d with | .non => some true | d => oth d)
  | .int i, d => (match d with | .int j => some (i == j) | .bl _ => none | d => oth d)
  | .str x, d => (match d with | .str y => some (x == y) | d => oth d)
  | .bl x, d => (match d with | .bl y => some (x == y) | .int _ => none | d => oth d)
  | .tup xs, d => (match d with | .tup ys => g xs ys | d => oth d)
  | .lst xs, d => (match d with | .lst ys => g xs ys | d => oth d)
  | _, _ => none
noncomputable def eqG : Nat → List D → List D → Option Bool
  | 0 => fun _ _ => none
  | n + 1 => eqsF (deqB (eqG n))
noncomputable def deqF (n : Nat) (d1 d2 : D) : Option Bool := deqB (eqG n) d1 d2
theorem oth1 {g : List D → List D → Option Bool} {d1 d2 : D} (h : oth d1 = none) : deqB g d1 d2 = none := by cases d1 <;> first | rfl | cases h
theorem oth2 {g : List D → List D → Option Bool} {d1 d2 : D} (h : oth d2 = none) : deqB g d1 d2 = none := by cases d1 <;> cases d2 <;> first | rfl | cases h
theorem eqsF_len {f : D → D → Option Bool} : ∀ {xs ys : List D} {b : Bool}, eqsF f xs ys = some b → xs.length ≠ ys.length → b = false
  | [], [], _, _, hl => absurd rfl hl
  | [], _ :: _, _, e, _ => by cases e; rfl
  | _ :: _, [], _, e, _ => by cases e; rfl
  | x :: xs, y :: ys, b, e, hl => by
    unfold eqsF at e
    split at e
    · rename_i p q h1 h2
      cases e
      rw [eqsF_len h2 (fun z => hl (by rw [List.length_cons, List.length_cons, z])), Bool.and_false]
    · cases e
theorem eqsF_all {f : D → D → Option Bool} : ∀ {xs ys : List D} {b : Bool}, eqsF f xs ys = some b → xs.length = ys.length →
    ∃ e : Nat → Bool, (∀ i x y, xs[i]? = some x → ys[i]? = some y → f x y = some (e i)) ∧ b = (List.range xs.length).all e
  | [], [], _, h, _ => ⟨fun _ => true, fun _ _ _ z => by simp at z, by cases h; rfl⟩
  | [], _ :: _, _, _, hl => by cases hl
  | _ :: _, [], _, _, hl => by cases hl
  | x :: xs, y :: ys, b, h, hl => by
    unfold eqsF at h
    split at h
    · rename_i p q h1 h2
      cases h
      obtain ⟨e, he, hb⟩ := eqsF_all h2 (Nat.succ.inj hl)
      refine ⟨fun i => match i with | 0 => p | i + 1 => e i, fun i x' y' z1 z2 => ?_, ?_⟩
      · cases i with
        | zero =>
          have a1 : x = x' := by simpa using z1
          have a2 : y = y' := by simpa using z2
          subst a1 a2
          exact h1
        | succ i => exact he i x' y' (by simpa using z1) (by simpa using z2)
      · rw [hb, List.length_cons, List.range_succ_eq_map, List.all_cons, List.all_map]
        rfl
    · cases h
theorem eqsF_min {f : D → D → Option Bool} : ∀ {xs ys : List D} {b : Bool}, eqsF f xs ys = some b →
    ∃ e : Nat → Bool, (∀ i x y, xs[i]? = some x → ys[i]? = some y → f x y = some (e i)) ∧ b = ((List.range (min xs.length ys.length)).all e && xs.length == ys.length)
  | [], [], _, h => ⟨fun _ => true, fun _ _ _ z => by simp at z, by cases h; rfl⟩
  | [], _ :: _, _, h => ⟨fun _ => true, fun _ _ _ z => by simp at z, by cases h; rfl⟩
  | _ :: _, [], _, h => ⟨fun _ => true, fun _ _ _ _ z => by simp at z, by cases h; rfl⟩
  | x :: xs, y :: ys, b, h => by
    unfold eqsF at h
    split at h
    · rename_i p q h1 h2
      cases h
      obtain ⟨e, he, hb⟩ := eqsF_min h2
      refine ⟨fun i => match i with | 0 => p | i + 1 => e i, fun i x' y' z1 z2 => ?_, ?_⟩
      · cases i with
        | zero =>
          have a1 : x = x' := by simpa using z1
          have a2 : y = y' := by simpa using z2
          subst a1 a2
          exact h1
        | succ i => exact he i x' y' (by simpa using z1) (by simpa using z2)
      · rw [hb, List.length_cons, List.length_cons, Nat.succ_min_succ, List.range_succ_eq_map, List.all_cons, List.all_map, Bool.and_assoc]
        congr 1
        congr 1
        by_cases hq : xs.length = ys.length
        · rw [hq]; simp
        · rw [beq_eq_false_iff_ne.mpr hq, beq_eq_false_iff_ne.mpr (fun z => hq (Nat.succ.inj z))]
    · cases h
section
variable {K : PySem.W.Frag} {H : Hp} {Ω : Om} {s : Shared}
structure Heaps (K : PySem.W.Frag) (H : Hp) (s : Shared) : Prop where
  l : ∀ a xs, Rd H a (.lst xs) → ∃ its : List Value, Vals xs its ∧ s.heap.IsList a its.toArray
  t : ∀ a xs, SqT K H a xs → ∃ its : List Value, Vals xs its ∧ s.heap.IsTuple a its.toArray
theorem Heaps.of {X : Cx} {pins : List (Addr × Obj)} {σ : St} (I : Inv X pins σ H s) : Heaps X.K H s :=
  ⟨fun a xs h => by obtain ⟨its, r, p, _⟩ := I.list (.inl h); exact ⟨its, r, p.isList⟩, fun a xs h => by obtain ⟨its, r, p, _⟩ := I.tuple h; exact ⟨its, r, p⟩⟩
theorem isList_inj {h : Heap} {a : Addr} {xs ys : List Value} (p : h.IsList a xs.toArray) (q : h.IsList a ys.toArray) : xs = ys := by
  obtain ⟨o, e, c, n, d⟩ := p
  obtain ⟨o', e', c', n', d'⟩ := q
  rw [e] at e'
  cases e'
  rw [d] at d'
  injection d' with z
  simpa using z
theorem isTuple_inj {h : Heap} {a : Addr} {xs ys : List Value} (p : h.IsTuple a xs.toArray) (q : h.IsTuple a ys.toArray) : xs = ys := by
  obtain ⟨o, e, c, n, d⟩ := p
  obtain ⟨o', e', c', n', d'⟩ := q
  rw [e] at e'
  cases e'
  rw [d] at d'
  injection d' with z
  simpa using z
theorem list_not_tuple {h : Heap} {a : Addr} {xs ys : Array Value} (p : h.IsList a xs) (q : h.IsTuple a ys) : False := by
  obtain ⟨o, e, c, n, d⟩ := p
  obtain ⟨o', e', c', n', d'⟩ := q
  rw [e] at e'
  cases e'
  rw [c] at c'
  exact absurd c' (by decide)
inductive AsX (K : PySem.W.Frag) (H : Hp) (Ω : Om) : D → V → Prop
  | non : AsX K H Ω .non .non
  | bl (b : Bool) : AsX K H Ω (.bl b) (.bl b)
  | int (i : Int) : AsX K H Ω (.int i) (.int i)
  | str (z : Str) : AsX K H Ω (.str z) (.str z)
  | tup (ds : List D) (p : Addr) (vs : List V) (q : SqT K H p vs) (r : Reps K H Ω ds vs) : AsX K H Ω (.tup ds) (.ref p)
  | lst (ds : List D) (p : Addr) (vs : List V) (q : Rd H p (.lst vs)) (r : Reps K H Ω ds vs) : AsX K H Ω (.lst ds) (.ref p)
  | oth (d : D) (v : V) (h : DL.oth d = none) : AsX K H Ω d v
theorem asX {d : D} {x : V} (h : RepB K H Ω d x) : AsX K H Ω d x := by
  cases d with
  | non => cases (show x = .non from h); exact .non
  | bl b => cases (show x = .bl b from h); exact .bl b
  | int i => cases (show x = .int i from h); exact .int i
  | str z => cases (show x = .str z from h); exact .str z
  | tup ds => obtain ⟨p, vs, e, q, r⟩ := rB_tup h; subst e; exact .tup ds p vs q r
  | lst ds => obtain ⟨p, vs, e, q, r⟩ := rB_lst h; subst e; exact .lst ds p vs q r
  | _ => exact .oth _ _ rfl
theorem same_items {f : D → D → Option Bool} (ih : ∀ {d1 d2 : D} {b : Bool} {v : V}, Rep K H Ω d1 v → Rep K H Ω d2 v → f d1 d2 = some b → b = true) : ∀ {xs ys : List D} {vs : List V} {b : Bool}, Reps K H Ω xs vs → Reps K H Ω ys vs → eqsF f xs ys = some b → b = true
  | [], ys, vs, b, r1, r2, e => by
    cases (show vs = [] from r1)
    cases ys with
    | nil => cases e; rfl
    | cons y ys => obtain ⟨v, q, e1, _⟩ := (show ∃ v r, _ from r2); cases e1
  | x :: xs, ys, vs, b, r1, r2, e => by
    obtain ⟨v, q, e1, e2, e3⟩ := (show ∃ v r, _ from r1)
    subst e1
    cases ys with
    | nil => cases (show _ = [] from r2)
    | cons y ys =>
      obtain ⟨v', q', g1, g2, g3⟩ := (show ∃ v r, _ from r2)
      cases g1
      unfold eqsF at e
      split at e
      · rename_i p1 p2 z1 z2
        cases e
        rw [ih e2 g2 z1, same_items ih e3 g3 z2]; rfl
      · cases e
theorem same_B {g : List D → List D → Option Bool} (hs : Heaps K H s) (hg : ∀ {xs ys : List D} {vs : List V} {b : Bool}, Reps K H Ω xs vs → Reps K H Ω ys vs → g xs ys = some b → b = true) {d1 d2 : D} {b : Bool} {v : V} (h1 : RepB K H Ω d1 v) (h2 : RepB K H Ω d2 v) (e : deqB g d1 d2 = some b) : b = true := by
  cases asX h1 with
  | oth d v h => rw [oth1 h] at e; cases e
  | non => cases d2 <;> first | (cases e; done) | (cases e; rfl) | (cases h2; done) | (obtain ⟨_, _, z, _⟩ := (show ∃ a vs, _ from h2); cases z)
  | bl b => cases d2 <;> first | (cases e; done) | (cases h2; cases e; exact beq_self_eq_true _) | (cases h2; done) | (obtain ⟨_, _, z, _⟩ := (show ∃ a vs, _ from h2); cases z)
  | int i => cases d2 <;> first | (cases e; done) | (cases h2; cases e; exact beq_self_eq_true _) | (cases h2; done) | (obtain ⟨_, _, z, _⟩ := (show ∃ a vs, _ from h2); cases z)
  | str z => cases d2 <;> first | (cases e; done) | (cases h2; cases e; exact beq_self_eq_true _) | (cases h2; done) | (obtain ⟨_, _, z, _⟩ := (show ∃ a vs, _ from h2); cases z)
  | tup ds p vs q r =>
    cases d2 with
    | tup ds2 =>
      obtain ⟨p2, ws, z, q2, r2⟩ := rB_tup h2
      cases z
      obtain ⟨i1, k1, z1⟩ := hs.t _ _ q
      obtain ⟨i2, k2, z2⟩ := hs.t _ _ q2
      cases isTuple_inj z1 z2
      cases k1.inj k2
      exact hg r r2 e
    | lst ds2 =>
      obtain ⟨p2, ws, z, q2, r2⟩ := rB_lst h2
      cases z
      obtain ⟨_, _, k1⟩ := hs.t _ _ q
      obtain ⟨_, _, k2⟩ := hs.l _ _ q2
      exact (list_not_tuple k2 k1).elim
    | _ => first | (cases e; done) | (cases h2; done)
  | lst ds p vs q r =>
    cases d2 with
    | lst ds2 =>
      obtain ⟨p2, ws, z, q2, r2⟩ := rB_lst h2
      cases z
      obtain ⟨i1, k1, z1⟩ := hs.l _ _ q
      obtain ⟨i2, k2, z2⟩ := hs.l _ _ q2
      cases isList_inj z1 z2
      cases k1.inj k2
      exact hg r r2 e
    | tup ds2 =>
      obtain ⟨p2, ws, z, q2, r2⟩ := rB_tup h2
      cases z
      obtain ⟨_, _, k1⟩ := hs.t _ _ q2
      obtain ⟨_, _, k2⟩ := hs.l _ _ q
      exact (list_not_tuple k2 k1).elim
    | _ => first | (cases e; done) | (cases h2; done)
theorem same_true (hs : Heaps K H s) : ∀ (n : Nat) {d1 d2 : D} {b : Bool} {v : V}, Rep K H Ω d1 v → Rep K H Ω d2 v → deqF n d1 d2 = some b → b = true
  | 0, _, _, _, _, h1, h2, e => same_B hs (g := eqG 0) (fun _ _ z => nomatch z) h1.b h2.b e
  | n + 1, _, _, _, _, h1, h2, e => same_B hs (g := eqG (n + 1)) (same_items (f := deqF n) (same_true hs n)) h1.b h2.b e
theorem eq_flat (hs : Heaps K H s) {n : Nat} {A : Around} {d1 d2 : D} {b : Bool} {x y : V} {v u : Value} (hu : A.units < cLine) (h1 : RepB K H Ω d1 x) (h2 : RepB K H Ω d2 y) (r1 : RelV x v) (r2 : RelV y u) (e : deqF n d1 d2 = some b)
    (hc : ∀ xs ys, ¬ (d1 = .tup xs ∧ d2 = .tup ys) ∧ ¬ (d1 = .lst xs ∧ d2 = .lst ys)) : SeqAt.RcAt A s v u b ∧ SeqAt.RcNeAt A s v u (!b) ∧ SeqAt.EqAt A s v u b := by
  have e : deqB (eqG n) d1 d2 = some b := e
  cases asX h1 with
  | oth d v h => rw [oth1 h] at e; cases e
  | non =>
    cases (show v = Value.none from r1)
    cases asX h2 with
    | oth d v h => rw [oth2 h] at e; cases e
    | non => cases (show u = Value.none from r2); cases e; exact ⟨.none_none, .none_none, .same _⟩
    | bl b2 => cases (show u = Value.bool b2 from r2); cases e; exact ⟨.none_bool _, .none_bool _, .none_bool _⟩
    | int i2 => obtain ⟨t2, rfl⟩ := (show ∃ t, u = Value.int i2 t from r2); cases e; exact ⟨.none_int _ _, .none_int _ _, .none_int _ _⟩
    | str i2 => obtain ⟨t2, rfl⟩ := (show ∃ t, u = Value.str i2 t from r2); cases e; exact ⟨.none_str _ _, .none_str _ _, .none_str _ _⟩
    | tup _ p2 _ q2 _ => cases (show u = Value.ref p2 from r2); obtain ⟨_, _, k⟩ := hs.t _ _ q2; cases e; exact ⟨.none_tuple k hu, .none_tuple k hu, .none_tuple k hu⟩
    | lst _ p2 _ q2 _ => cases (show u = Value.ref p2 from r2); obtain ⟨_, _, k⟩ := hs.l _ _ q2; cases e; exact ⟨.none_list k hu, .none_list k hu, .none_list k hu⟩
  | bl b1 =>
    cases (show v = Value.bool b1 from r1)
    cases asX h2 with
    | oth d v h => rw [oth2 h] at e; cases e
    | non => cases (show u = Value.none from r2); cases e; exact ⟨.bool_none _, .bool_none _, .bool_none _⟩
    | bl b2 => cases (show u = Value.bool b2 from r2); cases e; exact ⟨.bool_bool _ _, .bool_bool _ _, .bool_bool _ _⟩
    | int i2 => cases e
    | str z2 => obtain ⟨t2, rfl⟩ := (show ∃ t, u = Value.str z2 t from r2); cases e; exact ⟨.bool_str _ _ _, .bool_str _ _ _, .bool_str _ _ _⟩
    | tup _ p2 _ q2 _ => cases (show u = Value.ref p2 from r2); obtain ⟨_, _, hl2⟩ := hs.t _ _ q2; cases e; exact ⟨.bool_tuple _ hl2 hu, .bool_tuple _ hl2 hu, .bool_tuple _ hl2 hu⟩
    | lst _ p2 _ q2 _ => cases (show u = Value.ref p2 from r2); obtain ⟨_, _, hl2⟩ := hs.l _ _ q2; cases e; exact ⟨.bool_list _ hl2 hu, .bool_list _ hl2 hu, .bool_list _ hl2 hu⟩
  | int i1 =>
    obtain ⟨t1, rfl⟩ := (show ∃ t, v = Value.int i1 t from r1)
    cases asX h2 with
    | oth d v h => rw [oth2 h] at e; cases e
    | non => cases (show u = Value.none from r2); cases e; exact ⟨.int_none _ _, .int_none _ _, .int_none _ _⟩
    | bl b2 => cases e
    | int i2 => obtain ⟨t2, rfl⟩ := (show ∃ t, u = Value.int i2 t from r2); cases e; exact ⟨.int_int _ _ _ _, .int_int _ _ _ _, .int_int _ _ _ _⟩
    | str z2 => obtain ⟨t2, rfl⟩ := (show ∃ t, u = Value.str z2 t from r2); cases e; exact ⟨.int_str _ _ _ _, .int_str _ _ _ _, .int_str _ _ _ _⟩
    | tup _ p2 _ q2 _ => cases (show u = Value.ref p2 from r2); obtain ⟨_, _, hl2⟩ := hs.t _ _ q2; cases e; exact ⟨.int_tuple _ _ hl2 hu, .int_tuple _ _ hl2 hu, .int_tuple _ _ hl2 hu⟩
    | lst _ p2 _ q2 _ => cases (show u = Value.ref p2 from r2); obtain ⟨_, _, hl2⟩ := hs.l _ _ q2; cases e; exact ⟨.int_list _ _ hl2 hu, .int_list _ _ hl2 hu, .int_list _ _ hl2 hu⟩
  | str z1 =>
    obtain ⟨t1, rfl⟩ := (show ∃ t, v = Value.str z1 t from r1)
    cases asX h2 with
    | oth d v h => rw [oth2 h] at e; cases e
    | non => cases (show u = Value.none from r2); cases e; exact ⟨.str_none _ _, .str_none _ _, .str_none _ _⟩
    | bl b2 => cases (show u = Value.bool b2 from r2); cases e; exact ⟨.str_bool _ _ _, .str_bool _ _ _, .str_bool _ _ _⟩
    | int i2 => obtain ⟨t2, rfl⟩ := (show ∃ t, u = Value.int i2 t from r2); cases e; exact ⟨.str_int _ _ _ _, .str_int _ _ _ _, .str_int _ _ _ _⟩
    | str z2 => obtain ⟨t2, rfl⟩ := (show ∃ t, u = Value.str z2 t from r2); cases e; exact ⟨.str_str _ _ _ _, .str_str _ _ _ _, .str_str _ _ _ _⟩
    | tup _ p2 _ q2 _ => cases (show u = Value.ref p2 from r2); obtain ⟨_, _, hl2⟩ := hs.t _ _ q2; cases e; exact ⟨.str_tuple _ _ hl2 hu, .str_tuple _ _ hl2 hu, .str_tuple _ _ hl2 hu⟩
    | lst _ p2 _ q2 _ => cases (show u = Value.ref p2 from r2); obtain ⟨_, _, hl2⟩ := hs.l _ _ q2; cases e; exact ⟨.str_list _ _ hl2 hu, .str_list _ _ hl2 hu, .str_list _ _ hl2 hu⟩
  | tup _ p1 _ q1 _ =>
    cases (show v = Value.ref p1 from r1); obtain ⟨_, _, hl1⟩ := hs.t _ _ q1
    cases asX h2 with
    | oth d v h => rw [oth2 h] at e; cases e
    | non => cases (show u = Value.none from r2); cases e; exact ⟨.tuple_none hl1 hu, .tuple_none hl1 hu, .tuple_none hl1 hu⟩
    | bl b2 => cases (show u = Value.bool b2 from r2); cases e; exact ⟨.tuple_bool _ hl1 hu, .tuple_bool _ hl1 hu, .tuple_bool _ hl1 hu⟩
    | int i2 => obtain ⟨t2, rfl⟩ := (show ∃ t, u = Value.int i2 t from r2); cases e; exact ⟨.tuple_int _ _ hl1 hu, .tuple_int _ _ hl1 hu, .tuple_int _ _ hl1 hu⟩
    | str z2 => obtain ⟨t2, rfl⟩ := (show ∃ t, u = Value.str z2 t from r2); cases e; exact ⟨.tuple_str _ _ hl1 hu, .tuple_str _ _ hl1 hu, .tuple_str _ _ hl1 hu⟩
    | tup _ p2 _ q2 _ => exact absurd ⟨rfl, rfl⟩ (hc _ _).1
    | lst _ p2 _ q2 _ => cases (show u = Value.ref p2 from r2); obtain ⟨_, _, hl2⟩ := hs.l _ _ q2; cases e; exact ⟨.tuple_list hl1 hl2 hu, .tuple_list hl1 hl2 hu, .tuple_list hl1 hl2 hu⟩
  | lst _ p1 _ q1 _ =>
    cases (show v = Value.ref p1 from r1); obtain ⟨_, _, hl1⟩ := hs.l _ _ q1
    cases asX h2 with
    | oth d v h => rw [oth2 h] at e; cases e
    | non => cases (show u = Value.none from r2); cases e; exact ⟨.list_none hl1 hu, .list_none hl1 hu, .list_none hl1 hu⟩
    | bl b2 => cases (show u = Value.bool b2 from r2); cases e; exact ⟨.list_bool _ hl1 hu, .list_bool _ hl1 hu, .list_bool _ hl1 hu⟩
    | int i2 => obtain ⟨t2, rfl⟩ := (show ∃ t, u = Value.int i2 t from r2); cases e; exact ⟨.list_int _ _ hl1 hu, .list_int _ _ hl1 hu, .list_int _ _ hl1 hu⟩
    | str z2 => obtain ⟨t2, rfl⟩ := (show ∃ t, u = Value.str z2 t from r2); cases e; exact ⟨.list_str _ _ hl1 hu, .list_str _ _ hl1 hu, .list_str _ _ hl1 hu⟩
    | tup _ p2 _ q2 _ => cases (show u = Value.ref p2 from r2); obtain ⟨_, _, hl2⟩ := hs.t _ _ q2; cases e; exact ⟨.list_tuple hl1 hl2 hu, .list_tuple hl1 hl2 hu, .list_tuple hl1 hl2 hu⟩
    | lst _ p2 _ q2 _ => exact absurd ⟨rfl, rfl⟩ (hc _ _).2
theorem vals_at {xs : List V} {its : List Value} (r : Vals xs its) {j : Nat} (h : j < its.toArray.size) : ∃ x, xs[j]? = some x ∧ RelV x its.toArray[j] := by
  have hl := r.length
  have h' : j < its.length := by simpa using h
  obtain ⟨x, hx⟩ : ∃ x, xs[j]? = some x := ⟨xs[j]'(by omega), List.getElem?_eq_getElem (by omega)⟩
  obtain ⟨u, hu, ru⟩ := r.get hx
  rw [List.getElem?_eq_getElem h'] at hu
  cases hu
  exact ⟨x, hx, by simpa using ru⟩
theorem eq_step (hs : Heaps K H s) {n : Nat} (ih : ∀ (A : Around) (d1 d2 : D) (b : Bool) (x y : V) (v u : Value), A.units + n < cLine → Rep K H Ω d1 x → Rep K H Ω d2 y → RelV x v → RelV y u → deqF n d1 d2 = some b → SeqAt.EqAt A s v u b)
    {A : Around} {d1 d2 : D} {b : Bool} {x y : V} {v u : Value} (hu : A.units + (n + 1) < cLine) (h1 : RepB K H Ω d1 x) (h2 : RepB K H Ω d2 y) (r1 : RelV x v) (r2 : RelV y u) (e : deqF (n + 1) d1 d2 = some b) : SeqAt.RcAt A s v u b ∧ SeqAt.RcNeAt A s v u (!b) := by
  have items : ∀ {xs ys : List D} {vs ws : List V} {i1 i2 : List Value} {ee : Nat → Bool}, Reps K H Ω xs vs → Reps K H Ω ys ws → Vals vs i1 → Vals ws i2 → (∀ i x y, xs[i]? = some x → ys[i]? = some y → deqF n x y = some (ee i)) →
      ∀ j (q1 : j < i1.toArray.size) (q2 : j < i2.toArray.size), SeqAt.EqAt A.in1 s i1.toArray[j] i2.toArray[j] (ee j) := by
    intro xs ys vs ws i1 i2 ee p1 p2 p3 p4 he j q1 q2
    obtain ⟨x1, g1, g2⟩ := vals_at p3 q1
    obtain ⟨y1, g3, g4⟩ := vals_at p4 q2
    have l1 := p1.length
    have l2 := p2.length
    have b1 : j < xs.length := by rw [l1]; exact (List.getElem?_eq_some_iff.mp g1).1
    have b2 : j < ys.length := by rw [l2]; exact (List.getElem?_eq_some_iff.mp g3).1
    obtain ⟨x2, z1, z2⟩ := p1.get (List.getElem?_eq_getElem b1)
    obtain ⟨y2, z3, z4⟩ := p2.get (List.getElem?_eq_getElem b2)
    rw [g1] at z1; cases z1
    rw [g3] at z3; cases z3
    exact ih A.in1 _ _ _ _ _ _ _ (by show A.units + 1 + n < cLine; omega) z2 z4 g2 g4 (he j _ _ (List.getElem?_eq_getElem b1) (List.getElem?_eq_getElem b2))
  by_cases ht : ∃ xs ys, d1 = .tup xs ∧ d2 = .tup ys
  · obtain ⟨xs, ys, rfl, rfl⟩ := ht
    obtain ⟨p1, vs, e1, q1, w1⟩ := rB_tup h1
    obtain ⟨p2, ws, e2, q2, w2⟩ := rB_tup h2
    cases e1; cases e2
    cases (show v = Value.ref p1 from r1); cases (show u = Value.ref p2 from r2)
    obtain ⟨i1, g1, hl1⟩ := hs.t _ _ q1
    obtain ⟨i2, g2, hl2⟩ := hs.t _ _ q2
    obtain ⟨ee, he, hb⟩ := eqsF_min (f := deqF n) e
    have hb' : b = ((List.range (min i1.toArray.size i2.toArray.size)).all ee && i1.toArray.size == i2.toArray.size) := by
      rw [hb, List.size_toArray, List.size_toArray, ← g1.length, ← g2.length, ← w1.length, ← w2.length]
    rw [hb']
    exact ⟨.tuples hl1 hl2 (by omega) (items w1 w2 g1 g2 he), .tuples hl1 hl2 (by omega) (items w1 w2 g1 g2 he)⟩
  · by_cases hl : ∃ xs ys, d1 = .lst xs ∧ d2 = .lst ys
    · obtain ⟨xs, ys, rfl, rfl⟩ := hl
      obtain ⟨p1, vs, e1, q1, w1⟩ := rB_lst h1
      obtain ⟨p2, ws, e2, q2, w2⟩ := rB_lst h2
      cases e1; cases e2
      cases (show v = Value.ref p1 from r1); cases (show u = Value.ref p2 from r2)
      obtain ⟨i1, g1, hl1⟩ := hs.l _ _ q1
      obtain ⟨i2, g2, hl2⟩ := hs.l _ _ q2
      have e' : eqsF (deqF n) xs ys = some b := e
      have s1 : i1.toArray.size = xs.length := by rw [List.size_toArray, ← g1.length, ← w1.length]
      have s2 : i2.toArray.size = ys.length := by rw [List.size_toArray, ← g2.length, ← w2.length]
      by_cases hlen : xs.length = ys.length
      · obtain ⟨ee, he, hb⟩ := eqsF_all e' hlen
        have hb' : b = (List.range i1.toArray.size).all ee := by rw [hb, s1]
        rw [hb']
        exact ⟨.lists hl1 hl2 (by rw [s1, s2, hlen]) (by omega) (items w1 w2 g1 g2 he), .lists hl1 hl2 (by rw [s1, s2, hlen]) (by omega) (items w1 w2 g1 g2 he)⟩
      · have hb := eqsF_len e' hlen
        subst hb
        have hne : (i1.toArray.size != i2.toArray.size) = true := by rw [s1, s2]; simpa using hlen
        exact ⟨.lists_lengths hl1 hl2 hne (by omega), .lists_lengths hl1 hl2 hne (by omega)⟩
    · have := eq_flat hs (A := A) (by omega) h1 h2 r1 r2 e fun xs ys => ⟨fun z => ht ⟨xs, ys, z⟩, fun z => hl ⟨xs, ys, z⟩⟩
      exact ⟨this.1, this.2.1⟩
theorem eq_main (hs : Heaps K H s) : ∀ (n : Nat) (A : Around) (d1 d2 : D) (b : Bool) (x y : V) (v u : Value), A.units + n < cLine → Rep K H Ω d1 x → Rep K H Ω d2 y → RelV x v → RelV y u → deqF n d1 d2 = some b → SeqAt.EqAt A s v u b := by
  intro n
  induction n with
  | zero =>
    intro A d1 d2 b x y v u hu h1 h2 r1 r2 e
    refine (eq_flat hs (by omega) h1.b h2.b r1 r2 e fun xs ys => ⟨?_, ?_⟩).2.2
    · rintro ⟨rfl, rfl⟩; cases e
    · rintro ⟨rfl, rfl⟩; cases e
  | succ n ih =>
    intro A d1 d2 b x y v u hu h1 h2 r1 r2 e
    by_cases hc : ∀ xs ys, ¬ (d1 = .tup xs ∧ d2 = .tup ys) ∧ ¬ (d1 = .lst xs ∧ d2 = .lst ys)
    · exact (eq_flat hs (by omega) h1.b h2.b r1 r2 e hc).2.2
    · have rc := (eq_step hs ih hu h1.b h2.b r1 r2 e).1
      have refs : ∃ p q, x = .ref p ∧ y = .ref q := by
        apply Classical.byContradiction
        intro hn
        apply hc
        intro xs ys
        refine ⟨?_, ?_⟩
        · rintro ⟨rfl, rfl⟩
          obtain ⟨p, _, e1, _⟩ := (show ∃ a vs, _ from h1)
          obtain ⟨q, _, e2, _⟩ := (show ∃ a vs, _ from h2)
          exact hn ⟨p, q, e1, e2⟩
        · rintro ⟨rfl, rfl⟩
          obtain ⟨p, _, e1, _⟩ := (show ∃ a vs, _ from h1)
          obtain ⟨q, _, e2, _⟩ := (show ∃ a vs, _ from h2)
          exact hn ⟨p, q, e1, e2⟩
      obtain ⟨p, q, rfl, rfl⟩ := refs
      cases (show v = Value.ref p from r1); cases (show u = Value.ref q from r2)
      by_cases hpq : p = q
      · subst hpq
        rw [same_true hs (n + 1) h1 h2 e]
        exact .same _
      · exact .of_refs hpq rc
end
section
variable {X : Cx}
noncomputable def gEq (d1 d2 : D) : Option DV := (deqF 8 d1 d2).map fun b => .val (.bl b)
noncomputable def gNe (d1 d2 : D) : Option DV := (deqF 8 d1 d2).map fun b => .val (.bl (!b))
noncomputable def rEqD (K : PySem.W.Frag) (neg : Bool) : R2 := fun x y H Q => ∃ Ω d1 d2 b, RepB K H Ω d1 x ∧ RepB K H Ω d2 y ∧ deqF 8 d1 d2 = some b ∧ Q (.bl (if neg then !b else b)) H
theorem op_eqD (hu : X.A.units + 64 < cLine) : OpR X (compareOp .Eq) (rEqD X.K false) := by
  intro pins s σ H x y v u Q I rx ry h
  obtain ⟨Ω, d1, d2, b, h1, h2, e, q⟩ := h
  exact (eq_step (Heaps.of I) (n := 7) (eq_main (Heaps.of I) 7) (by omega) h1 h2 rx ry e).1 _ _ _ _ ⟨.bl b, H, I, rfl, q⟩
theorem op_neD (hu : X.A.units + 64 < cLine) : OpR X (compareOp .NotEq) (rEqD X.K true) := by
  intro pins s σ H x y v u Q I rx ry h
  obtain ⟨Ω, d1, d2, b, h1, h2, e, q⟩ := h
  exact (eq_step (Heaps.of I) (n := 7) (eq_main (Heaps.of I) 7) (by omega) h1 h2 rx ry e).2 _ _ _ _ ⟨.bl (!b), H, I, rfl, q⟩
theorem cmp_eq (hu : X.A.units + 64 < cLine) : CmpD X .Eq gEq := ⟨_, op_eqD hu, by
  intro E σ H δ Ω x y d1 d2 z Q R r1 r2 hz h
  obtain ⟨b, e, rfl⟩ := Option.map_eq_some_iff.mp hz
  exact ⟨Ω, d1, d2, b, r1, r2, e, h.now R rfl⟩⟩
theorem cmp_ne (hu : X.A.units + 64 < cLine) : CmpD X .NotEq gNe := ⟨_, op_neD hu, by
  intro E σ H δ Ω x y d1 d2 z Q R r1 r2 hz h
  obtain ⟨b, e, rfl⟩ := Option.map_eq_some_iff.mp hz
  exact ⟨Ω, d1, d2, b, r1, r2, e, h.now R rfl⟩⟩
end
end DL
namespace DL
open PySem PySem.Spec PyProof.Rows L2
noncomputable def DO (K : PySem.W.Frag) (E : Str → Hp → Prop) (to : TO) (f : DM (Option Int)) : Prop := ∀ σ H δ Ω, RepS K H Ω σ δ → ∀ Q : Option Int → Hp → Prop, Wg E H Ω (fun o δ' H' Ω' => RepS K H' Ω' σ δ' → Q o H') (f δ) → to σ H Q
noncomputable def POD (X : Cx) (E : Str → Hp → Prop) (e : Option Expr) (f : DM (Option Int)) : Prop := ∃ t, PO X e t ∧ DO X.K E t f
noncomputable def fNoPart : DM (Option Int) := .ret none
noncomputable def fPart (f : DM DV) : DM (Option Int) := (fN f).bd fun a δ => match res δ a with
  | some (.int i) => .ok (some i) δ
  | _ => .un
noncomputable def cutD {α : Type} (xs : List α) (lo hi : Option Int) : List α := (xs.drop (HT.sIx xs.length 0 lo)).take (HT.sIx xs.length xs.length hi - HT.sIx xs.length 0 lo)
noncomputable def gSlice (d : D) (lo hi : Option Int) : Option DV := match d with
  | .lst ds => some (.own (cutD ds lo hi))
  | .str z => if z.length ≤ sizeLine then some (.val (.str (Txt.slice z lo hi))) else none
  | _ => none
noncomputable def fSlice (f : DM DV) (lo hi : DM (Option Int)) : DM DV := (fN f).bd fun a => lo.bd fun l => hi.bd fun u => fun δ => match res δ a with
  | some d => (match gSlice d l u with | some r => .ok r δ | none => .un)
  | none => .un
section
variable {X : Cx} {E : Str → Hp → Prop} {pos p2 : Pos} {e : Expr} {f : DM DV} {lo hi : Option Expr} {fl fu : DM (Option Int)}
theorem pod_some (h : PED X E e f) : POD X E (some e) (fPart f) := by
  obtain ⟨t, p, d⟩ := h
  refine ⟨_, po_some p, fun σ H δ Ω R Q h => ?_⟩
  refine d.use R h fun a x δ1 H1 Ω1 _ s1 R1 r1 h1 => ?_
  (try dsimp only at h1)
  split at h1
  · rename_i i q1
    exact ⟨i, r1.res R1 q1, h1 H1 Ω1 .refl R1⟩
  · exact h1.elim
theorem ped_slice (he : PED X E e f) (hl : POD X E lo fl) (hu : POD X E hi fu) : PED X E (.Subscript e (.Slice lo hi none p2) pos) (fSlice f fl fu) := by
  obtain ⟨t, p, d⟩ := he
  obtain ⟨tl, pl, dl⟩ := hl
  obtain ⟨tu, pu, du⟩ := hu
  refine ⟨_, pe_slice (sl_list.or sl_str) p pl pu, fun σ H δ Ω R Q h => ?_⟩
  refine d.use R h fun a x δ1 H1 Ω1 _ s1 R1 r1 h1 => ?_
  refine dl σ H1 δ1 Ω1 R1 _ (Wg.bd h1 fun l δ2 H2 Ω2 e2 h2 R2 => ?_)
  refine du σ H2 δ2 Ω2 R2 _ (Wg.bd h2 fun u δ3 H3 Ω3 e3 h3 R3 => ?_)
  have r3 := r1.ext s1 (e2.trans e3)
  cases q : res δ3 a with
  | none => rw [q] at h3; exact h3.elim
  | some dd =>
    rw [q] at h3
    cases dd with
    | lst ds =>
      obtain ⟨b, vs, e1, q2, q3⟩ := rB_lst (r3.res R3 q)
      refine .inl ⟨b, vs, e1, .inl q2, fun p hp => ?_⟩
      have hc : Reps X.K H3 Ω3 (cutD ds l u) (cutV vs l u) := by
        unfold cutD cutV
        rw [q3.length]
        exact (q3.drop _).take _
      exact Wg.alloc1 h3 R3 hp hc
    | str z =>
      unfold gSlice at h3
      (try dsimp only at h3)
      split at h3
      · rename_i r hr
        split at hr
        · rename_i hz
          cases hr
          exact .inr ⟨z, r3.res R3 q, hz, Wg.now h3 R3 rfl⟩
        · cases hr
      · exact h3.elim
    | _ => exact h3.elim
end
end DL
namespace DL
open PySem PySem.Spec PyProof.Rows L2
theorem script_sp {K : PySem.W.Frag} {ce : Str → Value} {M : List D → Ro} {H : Hp} {a : Addr} {ns : List Int} {E : XK} (hM : M [.scr ns] = .ok (.bl true)) (hO : Only H) (hS : SqL K H a (ns.map V.int)) : spP K ce 1 M [.ref a] H (fun v _ => v = .bl true) E := by
  refine ⟨rfl, fun _ => none, [.scr ns], fun _ _ q => (by cases q), fun _ _ q => (by cases q), .cons (show ∃ a, _ from ⟨a, rfl, ?_⟩) .nil, ?_⟩
  · rcases hS with (h | ⟨o, h⟩) | h
    · rcases hO a with z | ⟨o, xs, z⟩ <;> (rw [z] at h; cases h)
    · exact .inl ⟨o, h⟩
    · exact .inr h
  · rw [hM]
    exact fun H' Ω' _ _ v r => r
end DL
namespace DL
open PySem L2
theorem comp_fm {fe : DM DV} {fc : DM Bool} {rest : DSt} {g : D → D} {p : D → Bool} : ∀ (ds : List D) (s0 : Sl) (out : List D), out.length + ds.length ≤ sizeLine →
    (∀ d ∈ ds, fc (.sh d :: rest) = .ok (p d) (.sh d :: rest)) → (∀ d ∈ ds, p d = true → fN fe (.sh d :: rest) = .ok (.val (g d)) (.sh d :: rest)) →
    compD (sName 0) fc fe ds (s0 :: rest) out = some (out ++ (ds.filter p).map g)
  | [], _, out, _, _, _ => by simp [compD]
  | d :: ds, s0, out, hl, hc, he => by
    have h1 := hc d List.mem_cons_self
    have hl' : out.length + (ds.length + 1) ≤ sizeLine := hl
    have ih := fun out' (h : out'.length + ds.length ≤ sizeLine) => comp_fm ds (.sh d) out' h (fun x hx => hc x (List.mem_cons_of_mem _ hx)) (fun x hx => he x (List.mem_cons_of_mem _ hx))
    unfold compD
    show (match fc (.sh d :: rest) with | .ok true δ2 => _ | .ok false δ2 => _ | _ => _) = _
    rw [h1]
    cases hp : p d with
    | false =>
      show compD (sName 0) fc fe ds (.sh d :: rest) out = _
      rw [ih out (by omega), List.filter_cons_of_neg (by simp [hp])]
    | true =>
      show (match fN fe (.sh d :: rest) with | .ok (.val v) δ3 => _ | _ => _) = _
      rw [he d List.mem_cons_self hp]
      show (if out.length < sizeLine then compD (sName 0) fc fe ds (.sh d :: rest) (out ++ [g d]) else none) = _
      rw [if_pos (by omega), ih _ (by rw [List.length_append, List.length_singleton]; omega), List.filter_cons_of_pos hp, List.map_cons, List.append_assoc]
      rfl
theorem comp_map {fe : DM DV} {rest : DSt} {g : D → D} (ds : List D) (s0 : Sl) (hl : ds.length ≤ sizeLine) (he : ∀ d ∈ ds, fN fe (.sh d :: rest) = .ok (.val (g d)) (.sh d :: rest)) :
    compD (sName 0) (.ret true) fe ds (s0 :: rest) [] = some (ds.map g) := by
  have := comp_fm (fc := .ret true) (p := fun _ => true) (g := g) ds s0 [] (by simpa using hl) (fun _ _ => rfl) (fun d hd _ => he d hd)
  rw [List.filter_eq_self.mpr (fun _ _ => rfl), List.nil_append] at this
  exact this
noncomputable def okD : Nat → D → Bool
  | _, .non => true
  | _, .int _ => true
  | _, .str _ => true
  | _, .bl _ => true
  | n + 1, .tup xs => xs.all (okD n)
  | n + 1, .lst xs => xs.all (okD n)
  | _, _ => false
theorem deq_self : ∀ (n : Nat) (d : D), okD n d = true → deqF n d d = some true := by
  intro n
  induction n with
  | zero => intro d h; cases d <;> first | (cases h; done) | rfl | exact congrArg some (beq_self_eq_true _)
  | succ n ih =>
    have items : ∀ xs : List D, xs.all (okD n) = true → eqsF (deqF n) xs xs = some true := by
      intro xs
      induction xs with
      | nil => intro _; rfl
      | cons x xs ihx =>
        intro h
        rw [List.all_cons, Bool.and_eq_true] at h
        unfold eqsF
        rw [ih x h.1, ihx h.2]
        rfl
    intro d h
    cases d with
    | tup xs => exact items xs h
    | lst xs => exact items xs h
    | _ => first | (cases h; done) | rfl | exact congrArg some (beq_self_eq_true _)
theorem rangeD_mem {lo : Int} {n : Nat} {d : D} (h : d ∈ rangeD lo n) : ∃ k : Nat, k < n ∧ d = .int (lo + k) := by
  unfold rangeD at h
  obtain ⟨k, hk, e⟩ := List.mem_map.mp h
  exact ⟨k, List.mem_range.mp hk, e.symm⟩
theorem range0_mem {n : Nat} {d : D} (h : d ∈ rangeD 0 n) : ∃ k : Nat, k < n ∧ d = .int (k : Int) := by
  obtain ⟨k, hk, e⟩ := rangeD_mem h
  exact ⟨k, hk, by rw [e, Int.zero_add]⟩
theorem rangeD_len (lo : Int) (n : Nat) : (rangeD lo n).length = n := by unfold rangeD; rw [List.length_map, List.length_range]
end DL
namespace DL
open PySem L2
section
variable {f f1 f2 g fo : DM DV} {fa r : DM (List DV)} {δ δ1 δ2 δ3 : DSt} {a a1 a2 : DV} {d d1 d2 : D} {z : DV} {as : List DV} {ds es : List D} {i n : Nat} {R : Rs Fl} {S S1 : DM Fl} {c c1 : DM Bool} {b b1 : Bool}
theorem ev_var (h : δ[i]? = some (.sh d)) : fVar i δ = .ok (.val d) δ := by unfold fVar; rw [h]
theorem ev_slot (h : δ[i]? = some (.ow ds)) : fVar i δ = .ok (.slot i) δ := by unfold fVar; rw [h]
theorem ev_c : fC d δ = .ok (.val d) δ := rfl
theorem ev_nil : fNil δ = .ok [] δ := rfl
theorem ev_cons (h1 : f δ = .ok a δ1) (h2 : r δ1 = .ok as δ2) : fCons f r δ = .ok (norm a :: as) δ2 := by unfold fCons fN DM.bd DM.ret; simp only [h1, h2]
theorem ev_bin {gg : D → D → Option DV} (h1 : f1 δ = .ok a1 δ1) (h2 : f2 δ1 = .ok a2 δ2) (e1 : res δ2 (norm a1) = some d1) (e2 : res δ2 (norm a2) = some d2) (hg : gg d1 d2 = some z) : fBin f1 f2 gg δ = .ok z δ2 := by
  unfold fBin fN DM.bd DM.ret; simp only [h1, h2, e1, e2, hg]
theorem ev_un {gg : D → Option DV} (h1 : f δ = .ok a δ1) (e1 : res δ1 (norm a) = some d1) (hg : gg d1 = some z) : fUn f gg δ = .ok z δ1 := by
  unfold fUn fN DM.bd DM.ret; simp only [h1, e1, hg]
theorem ev_cb {gg : List D → Option DV} (h : fa δ = .ok as δ1) (e : resAll δ1 as = some ds) (hg : gg ds = some z) : fCB fa gg δ = .ok z δ1 := by
  unfold fCB DM.bd; simp only [h, e, hg]
theorem ev_call {M : List D → Ro} (h : fa δ = .ok as δ1) (e : valsOf as = some ds) (hn : ds.length = n) (hM : M ds = .ok d) : fCall n fa M δ = .ok (.val d) δ1 := by
  unfold fCall DM.bd; simp only [h, e, hn, if_true, hM]
noncomputable def roRs : Ro → DSt → Rs DV
  | .un, _ => .un
  | .er c, _ => .er c
  | .ok d, δ => .ok (.val d) δ
  | .own es, δ => .ok (.own es) δ
theorem ev_callG {M : List D → Ro} {ro : Ro} {Z : Rs DV} (h : fa δ = .ok as δ1) (e : valsOf as = some ds) (hn : ds.length = n) (hM : M ds = ro) (hr : roRs ro δ1 = Z) : fCall n fa M δ = Z := by
  unfold fCall DM.bd; simp only [h, e, hn, if_true, hM]; cases ro <;> exact hr
theorem roRs_ok : roRs (.ok d) δ = .ok (.val d) δ := rfl
theorem roRs_own : roRs (.own ds) δ = .ok (.own ds) δ := rfl
theorem ev_callO {M : List D → Ro} (h : fa δ = .ok as δ1) (e : valsOf as = some ds) (hn : ds.length = n) (hM : M ds = .own es) : fCall n fa M δ = .ok (.own es) δ1 := by
  unfold fCall DM.bd; simp only [h, e, hn, if_true, hM]
theorem ev_tup (h : fa δ = .ok as δ1) (e : valsOf as = some ds) (hl : ds.length ≤ sizeLine) : fTup fa δ = .ok (.val (.tup ds)) δ1 := by
  unfold fTup DM.bd; simp only [h, e, hl, if_true]
theorem ev_lst (h : fa δ = .ok as δ1) (e : valsOf as = some ds) (hl : ds.length ≤ sizeLine) : fLst fa δ = .ok (.own ds) δ1 := by
  unfold fLst DM.bd; simp only [h, e, hl, if_true]
theorem ev_set (h : f δ = .ok a δ1) (e : norm a = .val d) : fSet i f δ = .ok .nx (δ1.set i (.sh d)) := by
  unfold fSet fN DM.bd DM.ret; simp only [h, e]
theorem ev_setO (h : f δ = .ok (.own ds) δ1) : fSetO i f δ = .ok .nx (δ1.set i (.ow ds)) := by
  unfold fSetO DM.bd; simp only [h]
noncomputable def seqK (r : Rs Fl) (S1 : DM Fl) : Rs Fl := match r with
  | .ok .nx δ' => S1 δ'
  | r => r
theorem ev_seqK {R1 : Rs Fl} (h1 : S δ = R1) (h2 : seqK R1 S1 = R) : fSeq S S1 δ = R := by unfold fSeq; rw [h1]; exact h2
theorem seqK_nx (h : S1 δ = R) : seqK (.ok .nx δ) S1 = R := h
theorem seqK_rt : seqK (.ok (.rt d) δ) S1 = .ok (.rt d) δ := rfl
theorem seqK_rto : seqK (.ok (.rto ds) δ) S1 = .ok (.rto ds) δ := rfl
theorem ev_next : fNext δ = .ok .nx δ := rfl
theorem ev_ret (h : f δ = .ok (.val d) δ1) : fRet f δ = .ok (.rt d) δ1 := by unfold fRet DM.bd; simp only [h]
theorem ev_retS (h : f δ = .ok (.slot i) δ1) (e : δ1[i]? = some (.ow ds)) : fRet f δ = .ok (.rto ds) (δ1.set i .no) := by unfold fRet DM.bd; simp only [h, e]
noncomputable def retK (r : Rs DV) : Rs Fl := match r with
  | .un => .un
  | .er c => .er c
  | .ok (.val d) δ => .ok (.rt d) δ
  | .ok (.own ds) δ => .ok (.rto ds) δ
  | .ok (.slot i) δ => (match δ[i]? with | some (.ow ds) => .ok (.rto ds) (δ.set i .no) | _ => .un)
  | .ok (.fld _ _) _ => .un
theorem ev_retK {Z : Rs DV} (h : f δ = Z) (h2 : retK Z = R) : fRet f δ = R := by
  subst h
  rw [← h2]
  unfold fRet DM.bd retK
  cases f δ with
  | un => rfl
  | er c => rfl
  | ok a δ' => cases a <;> rfl
theorem retK_val : retK (.ok (.val d) δ) = .ok (.rt d) δ := rfl
theorem retK_own : retK (.ok (.own ds) δ) = .ok (.rto ds) δ := rfl
theorem retK_slot (e : δ[i]? = some (.ow ds)) : retK (.ok (.slot i) δ) = .ok (.rto ds) (δ.set i .no) := by unfold retK; simp only [e]
theorem ev_test (h : f δ = .ok a δ1) (e : res δ1 (norm a) = some (.bl b)) : fTest f δ = .ok b δ1 := by unfold fTest fN DM.bd DM.ret; simp only [h, e]
theorem ev_app (ho : δ[i]? = some (.ow es)) (h : f δ = .ok a δ1) (e : norm a = .val d) (e2 : δ1[i]? = some (.ow ds)) (hl : ds.length < sizeLine) : fApp' i f δ = .ok .nx (δ1.set i (.ow (ds ++ [d]))) := by
  unfold fApp' isOw fApp fN DM.bd DM.ret; simp only [ho, if_true, h, e, e2, hl]
theorem ev_lc {fi : DM (List D)} {t : D → DSt → Option DSt} {fc : DM Bool} {fe : DM DV} {sel : List (Option Nat)} (h : fi δ = .ok ds δ1) (hc : compD t fc fe ds (captD δ1 sel) [] = some es) : fLC fi t fc fe sel δ = .ok (.own es) δ1 := by
  unfold fLC DM.bd; simp only [h, hc]
theorem ev_rng1 {j : Int} (h : fa δ = .ok as δ1) (e : as = [.val (.int j)]) (hs : small62 j = true) : fRng1 fa δ = .ok (rangeD 0 j.toNat) δ1 := by subst e; unfold fRng1 DM.bd; simp only [h, hs, if_true]
theorem ev_rng2 {j k : Int} (h : fa δ = .ok as δ1) (e : as = [.val (.int j), .val (.int k)]) (hs : small62 j = true) (hs2 : small62 k = true) : fRng2 fa δ = .ok (rangeD j (k - j).toNat) δ1 := by subst e; unfold fRng2 DM.bd; simp only [h, hs, hs2, Bool.and_self, if_true]
theorem ev_it {gg : D → Option (List D)} (h : f δ = .ok a δ1) (e : norm a = .val d) (hg : gg d = some ds) : fIt f gg δ = .ok ds δ1 := by unfold fIt fN DM.bd DM.ret; simp only [h, e, hg]
theorem ev_for {fi : DM (List D)} {t : D → DSt → Option DSt} (h : fi δ = .ok ds δ1) (hr : loopD t S ds δ1 = R) : fFor fi t S δ = R := by unfold fFor DM.bd; simp only [h]; exact hr
theorem ev_bm {gg : D → List D → Option DV} {x : Str} (h1 : fo δ = .ok a δ1) (e0 : res δ1 (norm a) = some (.str x)) (h2 : fa δ1 = .ok as δ2) (e1 : res δ2 (norm a) = some d) (e2 : resAll δ2 as = some ds) (hg : gg d ds = some z) : fBM fo fa gg δ = .ok z δ2 := by
  unfold fBM fN DM.bd DM.ret; simp only [h1, e0, h2, e1, e2, hg]
theorem ev_slice {lo hi : DM (Option Int)} {l u : Option Int} (h : f δ = .ok a δ1) (hl : lo δ1 = .ok l δ2) (hu : hi δ2 = .ok u δ3) (e : res δ3 (norm a) = some d) (hg : gSlice d l u = some z) : fSlice f lo hi δ = .ok z δ3 := by
  unfold fSlice fN DM.bd DM.ret; simp only [h, hl, hu, e, hg]
theorem ev_nopart : fNoPart δ = .ok none δ := rfl
theorem ev_part {j : Int} (h : f δ = .ok a δ1) (e : res δ1 (norm a) = some (.int j)) : fPart f δ = .ok (some j) δ1 := by unfold fPart fN DM.bd DM.ret; simp only [h, e]
theorem ev_andT {Z : Rs DV} (h : f δ = .ok a δ1) (e : res δ1 (norm a) = some (.bl b)) (hb : b = true) (hr : g δ1 = Z) : fAndV f g δ = Z := by
  unfold fAndV fBool fN DM.bd DM.ret; simp only [h, e, hb, if_true]; exact hr
theorem ev_andF (h : f δ = .ok a δ1) (e : res δ1 (norm a) = some (.bl b)) (hb : b = false) : fAndV f g δ = .ok (.val (.bl false)) δ1 := by
  unfold fAndV fBool fN DM.bd DM.ret; simp only [h, e, hb, Bool.false_eq_true, if_false]; rfl
theorem ev_orT (h : f δ = .ok a δ1) (e : res δ1 (norm a) = some (.bl b)) (hb : b = true) : fOrV f g δ = .ok (.val (.bl true)) δ1 := by
  unfold fOrV fBool fN DM.bd DM.ret; simp only [h, e, hb, if_true]; rfl
theorem ev_orF {Z : Rs DV} (h : f δ = .ok a δ1) (e : res δ1 (norm a) = some (.bl b)) (hb : b = false) (hr : g δ1 = Z) : fOrV f g δ = Z := by
  unfold fOrV fBool fN DM.bd DM.ret; simp only [h, e, hb, Bool.false_eq_true, if_false]; exact hr
theorem ev_not (h : f δ = .ok a δ1) (e : res δ1 (norm a) = some (.bl b)) : fNotV f δ = .ok (.val (.bl (!b))) δ1 := by
  unfold fNotV fBool fN DM.bd DM.ret; simp only [h, e]; rfl
theorem ev_notT (h : c δ = .ok b δ1) : fNotT c δ = .ok (!b) δ1 := by unfold fNotT DM.bd; simp only [h]; rfl
theorem ev_andTT {Z : Rs Bool} (h : c δ = .ok b δ1) (hb : b = true) (hr : c1 δ1 = Z) : fAndT c c1 δ = Z := by unfold fAndT DM.bd; simp only [h, hb, if_true]; exact hr
theorem ev_andTF (h : c δ = .ok b δ1) (hb : b = false) : fAndT c c1 δ = .ok false δ1 := by unfold fAndT DM.bd; simp only [h, hb, Bool.false_eq_true, if_false]; rfl
theorem ev_orTT (h : c δ = .ok b δ1) (hb : b = true) : fOrT c c1 δ = .ok true δ1 := by unfold fOrT DM.bd; simp only [h, hb, if_true]; rfl
theorem ev_orTF {Z : Rs Bool} (h : c δ = .ok b δ1) (hb : b = false) (hr : c1 δ1 = Z) : fOrT c c1 δ = Z := by unfold fOrT DM.bd; simp only [h, hb, Bool.false_eq_true, if_false]; exact hr
theorem ev_if (h : c δ = .ok b δ1) (hr : (if b = true then S δ1 else S1 δ1) = R) : fIf c S S1 δ = R := by unfold fIf DM.bd; simp only [h]; cases b <;> exact hr
theorem ev_and {Z : Rs DV} (h : f δ = .ok a δ1) (e : res δ1 (norm a) = some (.bl b)) (hr : (if b = true then g δ1 else .ok (.val (.bl false)) δ1) = Z) : fAndV f g δ = Z := by
  cases b with
  | true => exact ev_andT h e rfl hr
  | false => exact (ev_andF h e rfl).trans hr
theorem ev_or {Z : Rs DV} (h : f δ = .ok a δ1) (e : res δ1 (norm a) = some (.bl b)) (hr : (if b = true then .ok (.val (.bl true)) δ1 else g δ1) = Z) : fOrV f g δ = Z := by
  cases b with
  | true => exact (ev_orT h e rfl).trans hr
  | false => exact ev_orF h e rfl hr
theorem ev_ifE {Z : Rs DV} (h : c δ = .ok b δ1) (hr : (if b = true then f δ1 else g δ1) = Z) : fIfE c f g δ = Z := by unfold fIfE DM.bd; simp only [h]; cases b <;> exact hr
theorem ev_andTg {Z : Rs Bool} (h : c δ = .ok b δ1) (hr : (if b = true then c1 δ1 else .ok false δ1) = Z) : fAndT c c1 δ = Z := by unfold fAndT DM.bd; simp only [h]; cases b <;> exact hr
theorem ev_orTg {Z : Rs Bool} (h : c δ = .ok b δ1) (hr : (if b = true then .ok true δ1 else c1 δ1) = Z) : fOrT c c1 δ = Z := by unfold fOrT DM.bd; simp only [h]; cases b <;> exact hr
theorem ev_iteT {α : Type} {x y z : α} (hb : b = true) (h : x = z) : (if b = true then x else y) = z := by rw [hb]; exact h
theorem ev_iteF {α : Type} {x y z : α} (hb : b = false) (h : y = z) : (if b = true then x else y) = z := by rw [hb]; exact h
theorem loop_nx {t : D → DSt → Option DSt} (ht : t d δ = some δ1) (hb : S δ1 = .ok .nx δ2) (hr : loopD t S ds δ2 = R) : loopD t S (d :: ds) δ = R := by unfold loopD; rw [ht]; dsimp only; rw [hb]; exact hr
theorem loop_rt {t : D → DSt → Option DSt} (ht : t d δ = some δ1) (hb : S δ1 = .ok (.rt d1) δ2) : loopD t S (d :: ds) δ = .ok (.rt d1) δ2 := by unfold loopD; rw [ht]; dsimp only; rw [hb]
theorem ev_run {body : DM Fl} (h : body (ds.map .sh ++ List.replicate (n - ds.length) .no) = .ok (.rt d) δ1) : runP body n ds = .ok d := by unfold runP; rw [h]
theorem ev_runO {body : DM Fl} (h : body (ds.map .sh ++ List.replicate (n - ds.length) .no) = .ok (.rto es) δ1) : runP body n ds = .own es := by unfold runP; rw [h]
theorem og_addI {i j : Int} : gAdd (.int i) (.int j) = some (.val (.int (i + j))) := rfl
theorem og_addS {x y : Str} (h : x.length + y.length ≤ sizeLine) : gAdd (.str x) (.str y) = some (.val (.str (x ++ y))) := if_pos h
theorem og_addL {xs ys : List D} (h : xs.length + ys.length ≤ sizeLine) : gAdd (.lst xs) (.lst ys) = some (.own (xs ++ ys)) := if_pos h
theorem og_mul {i j : Int} (h : cmul i j = true) : gMul (.int i) (.int j) = some (.val (.int (i * j))) := if_pos h
theorem og_div {i j : Int} (h : cdiv j = true) : gDiv (.int i) (.int j) = some (.val (.int (i / j))) := if_pos h
theorem og_mod {i j : Int} (h : decide (0 < j) = true) : gMod (.int i) (.int j) = some (.val (.int (i % j))) := if_pos h
theorem og_ixL {j : Int} (h : atI ds j = some d) : gIx (.lst ds) (.int j) = some (.val d) := by show (atI ds j).map DV.val = _; rw [h]; rfl
theorem atI_zero {α : Type} (x : α) (xs : List α) : atI (x :: xs) 0 = some x := by
  unfold atI ixN
  rw [if_pos (Int.le_refl 0), if_pos (by rw [List.length_cons]; omega)]
  rfl
theorem og_ixL0 : gIx (.lst (d :: ds)) (.int 0) = some (.val d) := og_ixL (atI_zero d ds)
theorem atI_of {α : Type} {xs : List α} {j : Int} {x : α} (h0 : 0 ≤ j) (h : xs[j.toNat]? = some x) : atI xs j = some x := by
  have hl := (List.getElem?_eq_some_iff.mp h).1
  unfold atI ixN
  rw [if_pos h0, if_pos (by omega)]
  exact h
theorem og_lenS {x : Str} (h : x.length ≤ sizeLine) : gLen [.str x] = some (.val (.int x.length)) := if_pos h
theorem og_join {sep : Str} {ys : List Str} (e : strsOf ds = some ys) (h : (ys.map (·.length)).sum + ys.length * sep.length ≤ 16777216) : gJoin (.str sep) [.lst ds] = some (.val (.str (Txt.join sep ys))) := by
  show (strsOf ds).bind _ = _; rw [e]; exact if_pos h
theorem og_strI {j : Int} (h : j.natAbs.log2 < 1920) : gStr [.int j] = some (.val (.str (Str.ofString (toString j)))) := if_pos h
theorem og_eq {b : Bool} (h : deqF 8 d1 d2 = some b) : gEq d1 d2 = some (.val (.bl b)) := by unfold gEq; rw [h]; rfl
theorem og_ne {b : Bool} (h : deqF 8 d1 d2 = some b) : gNe d1 d2 = some (.val (.bl (!b))) := by unfold gNe; rw [h]; rfl
theorem og_cmulL {i j : Int} (h1 : -18446744073709551616 < i) (h2 : i < 18446744073709551616) : cmul i j = true := by unfold cmul; rw [decide_eq_true h1, decide_eq_true h2]; rfl
theorem og_cmulR {i j : Int} (h1 : -18446744073709551616 < j) (h2 : j < 18446744073709551616) : cmul i j = true := by unfold cmul; rw [decide_eq_true h1, decide_eq_true h2]; simp
theorem og_small {j : Int} (h1 : -4611686018427387904 ≤ j) (h2 : j < 4611686018427387904) : small62 j = true := by unfold small62; simp; exact ⟨by omega, by omega⟩
theorem og_slL {l u : Option Int} : gSlice (.lst ds) l u = some (.own (cutD ds l u)) := rfl
end
theorem gis_int_non  : gIs "int" (.non) = some (.val (.bl false)) := by simp [gIs, isD, isTs, tyD, isExc]
theorem gis_int_bl {x : Bool} : gIs "int" (.bl x) = some (.val (.bl true)) := by simp [gIs, isD, isTs, tyD, isExc]
theorem gis_int_int {x : Int} : gIs "int" (.int x) = some (.val (.bl true)) := by simp [gIs, isD, isTs, tyD, isExc]
theorem gis_int_str {x : Str} : gIs "int" (.str x) = some (.val (.bl false)) := by simp [gIs, isD, isTs, tyD, isExc]
theorem gis_int_tup {x : List D} : gIs "int" (.tup x) = some (.val (.bl false)) := by simp [gIs, isD, isTs, tyD, isExc]
theorem gis_int_lst {x : List D} : gIs "int" (.lst x) = some (.val (.bl false)) := by simp [gIs, isD, isTs, tyD, isExc]
theorem gis_bool_non  : gIs "bool" (.non) = some (.val (.bl false)) := by simp [gIs, isD, isTs, tyD, isExc]
theorem gis_bool_bl {x : Bool} : gIs "bool" (.bl x) = some (.val (.bl true)) := by simp [gIs, isD, isTs, tyD, isExc]
theorem gis_bool_int {x : Int} : gIs "bool" (.int x) = some (.val (.bl false)) := by simp [gIs, isD, isTs, tyD, isExc]
theorem gis_bool_str {x : Str} : gIs "bool" (.str x) = some (.val (.bl false)) := by simp [gIs, isD, isTs, tyD, isExc]
theorem gis_bool_tup {x : List D} : gIs "bool" (.tup x) = some (.val (.bl false)) := by simp [gIs, isD, isTs, tyD, isExc]
theorem gis_bool_lst {x : List D} : gIs "bool" (.lst x) = some (.val (.bl false)) := by simp [gIs, isD, isTs, tyD, isExc]
theorem gis_str_non  : gIs "str" (.non) = some (.val (.bl false)) := by simp [gIs, isD, isTs, tyD, isExc]
theorem gis_str_bl {x : Bool} : gIs "str" (.bl x) = some (.val (.bl false)) := by simp [gIs, isD, isTs, tyD, isExc]
theorem gis_str_int {x : Int} : gIs "str" (.int x) = some (.val (.bl false)) := by simp [gIs, isD, isTs, tyD, isExc]
theorem gis_str_str {x : Str} : gIs "str" (.str x) = some (.val (.bl true)) := by simp [gIs, isD, isTs, tyD, isExc]
theorem gis_str_tup {x : List D} : gIs "str" (.tup x) = some (.val (.bl false)) := by simp [gIs, isD, isTs, tyD, isExc]
theorem gis_str_lst {x : List D} : gIs "str" (.lst x) = some (.val (.bl false)) := by simp [gIs, isD, isTs, tyD, isExc]
theorem gis_list_non  : gIs "list" (.non) = some (.val (.bl false)) := by simp [gIs, isD, isTs, tyD, isExc]
theorem gis_list_bl {x : Bool} : gIs "list" (.bl x) = some (.val (.bl false)) := by simp [gIs, isD, isTs, tyD, isExc]
theorem gis_list_int {x : Int} : gIs "list" (.int x) = some (.val (.bl false)) := by simp [gIs, isD, isTs, tyD, isExc]
theorem gis_list_str {x : Str} : gIs "list" (.str x) = some (.val (.bl false)) := by simp [gIs, isD, isTs, tyD, isExc]
theorem gis_list_tup {x : List D} : gIs "list" (.tup x) = some (.val (.bl false)) := by simp [gIs, isD, isTs, tyD, isExc]
theorem gis_list_lst {x : List D} : gIs "list" (.lst x) = some (.val (.bl true)) := by simp [gIs, isD, isTs, tyD, isExc]
theorem gis_tuple_non  : gIs "tuple" (.non) = some (.val (.bl false)) := by simp [gIs, isD, isTs, tyD, isExc]
theorem gis_tuple_bl {x : Bool} : gIs "tuple" (.bl x) = some (.val (.bl false)) := by simp [gIs, isD, isTs, tyD, isExc]
theorem gis_tuple_int {x : Int} : gIs "tuple" (.int x) = some (.val (.bl false)) := by simp [gIs, isD, isTs, tyD, isExc]
theorem gis_tuple_str {x : Str} : gIs "tuple" (.str x) = some (.val (.bl false)) := by simp [gIs, isD, isTs, tyD, isExc]
theorem gis_tuple_tup {x : List D} : gIs "tuple" (.tup x) = some (.val (.bl true)) := by simp [gIs, isD, isTs, tyD, isExc]
theorem gis_tuple_lst {x : List D} : gIs "tuple" (.lst x) = some (.val (.bl false)) := by simp [gIs, isD, isTs, tyD, isExc]
end DL
namespace DL
open PySem PySem.Spec PyProof.Rows L2
section
variable {X : Cx} {E : Str → Hp → Prop} {pos : Pos} {a b c e : Expr} {f g h : DM DV} {mp : List Nat}
noncomputable def intsOf : List D → Option (List Int)
  | [] => some []
  | .int i :: r => (intsOf r).map fun xs => i :: xs
  | _ :: _ => none
noncomputable def blsOf : List D → Option (List Bool)
  | [] => some []
  | .bl i :: r => (blsOf r).map fun xs => i :: xs
  | _ :: _ => none
theorem ints_vals {K : PySem.W.Frag} {H : Hp} {Ω : Om} : ∀ {ds : List D} {vs : List V} {xs : List Int}, Reps K H Ω ds vs → intsOf ds = some xs → vs = xs.map V.int
  | [], _, _, r, h => by cases h; exact r
  | d :: ds, _, xs, r, h => by
    obtain ⟨v, q, e1, e2, e3⟩ := (show ∃ v r, _ from r)
    cases d with
    | int x =>
      obtain ⟨ys, h1, rfl⟩ := Option.map_eq_some_iff.mp (show (intsOf ds).map _ = _ from h)
      rw [e1, ints_vals e3 h1, (show v = .int x from e2)]
      rfl
    | _ => cases h
theorem bls_vals {K : PySem.W.Frag} {H : Hp} {Ω : Om} : ∀ {ds : List D} {vs : List V} {xs : List Bool}, Reps K H Ω ds vs → blsOf ds = some xs → vs = xs.map V.bl
  | [], _, _, r, h => by cases h; exact r
  | d :: ds, _, xs, r, h => by
    obtain ⟨v, q, e1, e2, e3⟩ := (show ∃ v r, _ from r)
    cases d with
    | bl x =>
      obtain ⟨ys, h1, rfl⟩ := Option.map_eq_some_iff.mp (show (blsOf ds).map _ = _ from h)
      rw [e1, bls_vals e3 h1, (show v = .bl x from e2)]
      rfl
    | _ => cases h
noncomputable def gAll : List D → Option DV
  | [.lst ds] => (blsOf ds).map fun ns => .val (.bl (ns.all id))
  | _ => none
theorem cb_all (hc : X.calm = true) : CallD X (.builtin "all") gAll := ⟨_, call_allL hc, by
  intro E σ H δ Ω vs ds z Q R r hz h
  unfold gAll at hz
  split at hz
  · obtain ⟨ns, h1, rfl⟩ := Option.map_eq_some_iff.mp hz
    obtain ⟨v, e, rv⟩ := rBs_one r
    obtain ⟨a, ws, e1, e2, e3⟩ := rB_lst rv
    subst e1
    have hw := bls_vals e3 h1
    subst hw
    exact ⟨a, ns, e, .inl e2, h.now R rfl⟩
  · cases hz⟩
theorem rBs_two {K : PySem.W.Frag} {H : Hp} {Ω : Om} {d d' : D} {vs : List V} (h : RepBs K H Ω [d, d'] vs) : ∃ v v', vs = [v, v'] ∧ RepB K H Ω d v ∧ RepB K H Ω d' v' := by
  obtain ⟨v, r, e1, e2, e3⟩ := h
  obtain ⟨v', r', e1', e2', e3'⟩ := e3
  cases (show r' = [] from e3')
  subst e1'
  exact ⟨v, v', e1, e2, e2'⟩
noncomputable def imin (i j : Int) : Int := if j < i then j else i
noncomputable def gMin : List D → Option DV
  | [.int i, .int j] => some (.val (.int (imin i j)))
  | _ => none
theorem cb_min (hc : X.calm = true) : CallD X (.builtin "min") gMin := ⟨_, call_min2 hc, by
  intro E σ H δ Ω vs ds z Q R r hz h
  unfold gMin at hz
  split at hz
  · cases hz
    obtain ⟨v, v', e, rv, rv'⟩ := rBs_two r
    cases (show v = .int _ from rv)
    cases (show v' = .int _ from rv')
    exact ⟨_, _, e, h.now R rfl⟩
  · cases hz⟩
noncomputable def isNon : D → Bool
  | .non => true
  | _ => false
theorem rB_non {K : PySem.W.Frag} {H : Hp} {Ω : Om} {d : D} {v : V} (h : RepB K H Ω d v) : decide (v = .non) = isNon d := by
  cases d with
  | non => cases (show v = .non from h); rfl
  | bl y => cases (show v = .bl y from h); rfl
  | int y => cases (show v = .int y from h); rfl
  | str y => cases (show v = .str y from h); rfl
  | tup ds => obtain ⟨p, vs, e1, e2, e3⟩ := rB_tup h; subst e1; rfl
  | lst ds => obtain ⟨p, vs, e1, e2, e3⟩ := rB_lst h; subst e1; rfl
  | scr ns => obtain ⟨p, e1, e2⟩ := (show ∃ a, _ from h); subst e1; rfl
  | exc c => obtain ⟨p, C, e1, e2⟩ := (show ∃ a C, _ from h); subst e1; rfl
  | key r n => obtain ⟨p, e1, e2⟩ := (show ∃ a, _ from h); subst e1; rfl
  | obj ks vs as bs => obtain ⟨p, a1, a2, a3, kvs, xs, ys, e1, e2⟩ := (show ∃ p a1 a2 a3 kvs xs ys, _ from h); subst e1; rfl
noncomputable def gIsNotN : D → D → Option DV
  | d, .non => some (.val (.bl (!isNon d)))
  | _, _ => none
theorem cmp_isnot : CmpD X .IsNot gIsNotN := ⟨_, op_notN, by
  intro E σ H δ Ω x y d1 d2 z Q R r1 r2 hz h
  unfold gIsNotN at hz
  split at hz
  · cases hz
    exact ⟨r2, by rw [rB_non r1]; exact h.now R rfl⟩
  · cases hz⟩
noncomputable def gNeg : D → Option DV
  | .int i => some (.val (.int (-i)))
  | _ => none
theorem ped_neg (ha : PED X E a f) : PED X E (.UnaryOp .USub a pos) (fUn f gNeg) := by
  obtain ⟨t, p, d⟩ := ha
  refine ⟨_, pe_un un_neg p, de_un ?_ d⟩
  intro E σ H δ Ω x d1 z Q R r1 hz h
  unfold gNeg at hz
  split at hz
  · cases hz; exact ⟨_, r1, h.now R rfl⟩
  · cases hz
noncomputable def fChain (f g h : DM DV) (g1 g2 : D → D → Option DV) : DM DV := (fN f).bd fun a1 => (fN g).bd fun a2 => fun δ => match res δ a1, res δ a2 with
  | some d1, some d2 => (match g1 d1 d2 with
    | some (.val (.bl true)) => ((fN h).bd fun a3 => fun δ' => match res δ' a2, res δ' a3 with
        | some d2', some d3 => (match g2 d2' d3 with | some r => .ok r δ' | none => .un)
        | _, _ => .un) δ
    | some (.val (.bl false)) => .ok (.val (.bl false)) δ
    | _ => .un)
  | _, _ => .un
theorem de_chain {K : PySem.W.Frag} {r r' : R2} {g1 g2 : D → D → Option DV} {ta tb tc : TE} (h1 : DR K r g1) (h2 : DR K r' g2) (ha : DE K E ta f) (hb : DE K E tb g) (hc : DE K E tc h) : DE K E (tChain r r' ta tb tc) (fChain f g h g1 g2) := by
  intro σ H δ Ω R Q w
  refine ha.use R w fun a1 x δ1 H1 Ω1 _ s1 R1 r1 w1 => ?_
  refine hb.use R1 w1 fun a2 y δ2 H2 Ω2 e2 s2 R2 r2 w2 => ?_
  have r1 := r1.ext s1 e2
  cases q1 : res δ2 a1 with
  | none => rw [q1] at w2; exact w2.elim
  | some d1 =>
    cases q2 : res δ2 a2 with
    | none => rw [q1, q2] at w2; exact w2.elim
    | some d2 =>
      rw [q1, q2] at w2
      (try dsimp only at w2)
      split at w2
      · rename_i q3
        refine h1 (E := E) R2 (r1.res R2 q1) (r2.res R2 q2) q3 ?_
        intro H3 Ω3 e3 R3 v rv
        refine ⟨true, rv, iteT ?_⟩
        refine hc.use R3 (Wg.ext w2 e3) fun a3 z δ4 H4 Ω4 e4 s4 R4 r4 w4 => ?_
        have r2' := r2.ext s2 (e3.trans e4)
        (try dsimp only at w4)
        cases q5 : res δ4 a2 with
        | none => rw [q5] at w4; exact w4.elim
        | some d2' =>
          cases q6 : res δ4 a3 with
          | none => rw [q5, q6] at w4; exact w4.elim
          | some d3 =>
            rw [q5, q6] at w4
            (try dsimp only at w4)
            cases q7 : g2 d2' d3 with
            | none => rw [q7] at w4; exact w4.elim
            | some zz =>
              rw [q7] at w4
              exact h2 R4 (r2'.res R4 q5) (r4.res R4 q6) q7 w4
      · rename_i q3
        refine h1 (E := E) R2 (r1.res R2 q1) (r2.res R2 q2) q3 ?_
        intro H3 Ω3 e3 R3 v rv
        exact ⟨false, rv, iteF (w2 H3 Ω3 e3 R3 _ rfl)⟩
      · exact w2.elim
theorem ptd_chain {op op' : CmpOp} {g1 g2 : D → D → Option DV} (h1 : CmpD X op g1) (h2 : CmpD X op' g2) (ha : PED X E a f) (hb : PED X E b g) (hc : PED X E c h) (hm : lastMarks [op, op'] [b, c] = false := by with_unfolding_all rfl) :
    PTD X E (.Compare a [op, op'] [b, c] pos) (fTest (fChain f g h g1 g2)) := by
  obtain ⟨r, p1, d1⟩ := h1; obtain ⟨r', p2, d2⟩ := h2
  obtain ⟨ta, pa, da⟩ := ha; obtain ⟨tb, pb, db⟩ := hb; obtain ⟨tc, pc, dc⟩ := hc
  exact ⟨_, pt_chain p1 p2 pa pb pc hm, dt_test (de_chain d1 d2 da db dc)⟩
section
variable {tg iter elt : Expr} {ifs : List Expr} {sc : Scope} {fi : DM (List D)} {t : D → DSt → Option DSt} {fc : DM Bool} {fe : DM DV} {N : List Str} {sel : List (Option Nat)}
theorem ps_lc {i : Nat} {x : Str} {pos' spos : Pos} (B : Blk X N sel sc) (hc : X.calm = true) (hN : X.N.Nodup) (hx : X.N[i]? = some x) (hl : X.env.scope.names.lookup x = some .local) (hi : PID X E tg iter fi)
    (hg : ∀ b, PGD (blk X N sc b) [] tg t) (ht : ∀ b, PTsD (blk X N sc b) ifs fc) (he : ∀ b, PED (blk X N sc b) EN elt fe)
    (hsw : swapsWith (.ListComp elt [⟨tg, iter, ifs, 0⟩] sc pos) (some (.Name x pos')) spos.line X.env = pure true)
    (hs : ∀ x, foldedSetIterable iter X.env x = pure x) : ∃ te, DE X.K E te (fLC fi t fc fe sel) ∧ PS X (.Assign [.Name x pos'] (.ListComp elt [⟨tg, iter, ifs, 0⟩] sc pos) spos) (tAsg te (gName i)) := by
  obtain ⟨wi, p, d⟩ := hi
  exact ⟨_, de_lc d (fun σ H δ Ω dd x δ' R r e Q h b => (hg b).choose_spec.2 σ H δ Ω dd x δ' R r e Q h) (fun σ H δ Ω R Q h b => (ht b).choose_spec.2 σ H δ Ω R Q h) (fun σ H δ Ω R Q h b => (he b).choose_spec.2 σ H δ Ω R Q h),
    ps_setC (g := fun v σ H Q => ∀ b, (hg b).choose v σ H Q) (ts := fun σ H Q => ∀ b, (ht b).choose σ H Q) (te := fun σ H Q => ∀ b, (he b).choose σ H Q) B hc hN hx hl p
    (fun b pins s σ H v u Q I r h => (hg b).choose_spec.1 pins s σ H v u Q I r (h b)) (fun b pins s σ H Q I h => (ht b).choose_spec.1 pins s σ H Q I (h b)) (fun b pins s σ H Q I h => (he b).choose_spec.1 pins s σ H Q I (h b)) hsw hs⟩
theorem psd_lc (i : Nat) {x : Str} {pos' spos : Pos} (hN : X.N.Nodup) (B : Blk X N sel sc) (hc : X.calm = true) (hi : PID X E tg iter fi)
    (hg : ∀ b, PGD (blk X N sc b) [] tg t) (ht : ∀ b, PTsD (blk X N sc b) ifs fc) (he : ∀ b, PED (blk X N sc b) EN elt fe)
    (hx : X.N[i]? = some x := by rfl) (hl : X.env.scope.names.lookup x = some .local := by rfl) (hm : i ∉ mp := by decide)
    (hsw : swapsWith (.ListComp elt [⟨tg, iter, ifs, 0⟩] sc pos) (some (.Name x pos')) spos.line X.env = pure true := by rfl)
    (hs : ∀ x, foldedSetIterable iter X.env x = pure x := by intro _; rfl) : PSD X E mp (.Assign [.Name x pos'] (.ListComp elt [⟨tg, iter, ifs, 0⟩] sc pos) spos) (fSet i (fLC fi t fc fe sel)) := by
  obtain ⟨te, d, p⟩ := ps_lc (i := i) B hc hN hx hl hi hg ht he hsw hs
  exact ⟨_, p, ds_set hm d⟩
end
noncomputable def fRev (i : Nat) : DM Fl := fun δ => match δ[i]? with
  | some (.ow ds) => .ok .nx (δ.set i (.ow ds.reverse))
  | _ => .un
noncomputable def fExt0 (i : Nat) (f : DM DV) : DM Fl := (fN f).bd fun a δ => match res δ a, δ[i]? with
  | some (.lst es), some (.ow ds) => if ds.length + es.length ≤ sizeLine then .ok .nx (δ.set i (.ow (ds ++ es))) else .un
  | _, _ => .un
noncomputable def fExtend (i : Nat) (f : DM DV) : DM Fl := fun δ => if isOw i δ then fExt0 i f δ else .un
noncomputable def enumD (lo : Int) : List D → List D
  | [] => []
  | d :: ds => .tup [.int lo, d] :: enumD (lo + 1) ds
noncomputable def gEnumItems : D → Option (List D)
  | .lst ds => some (enumD 1 ds)
  | _ => none
noncomputable def fEnum (f : DM DV) : DM (List D) := fIt f gEnumItems
theorem ev_enum {δ δ1 : DSt} {aa : DV} {ds : List D} (h : f δ = .ok aa δ1) (e : norm aa = .val (.lst ds)) : fEnum f δ = .ok (enumD 1 ds) δ1 := by unfold fEnum fIt fN DM.bd DM.ret; simp only [h, e]; rfl
theorem ev_extend {i : Nat} {δ δ1 : DSt} {aa : DV} {es ds ds0 : List D} (ho : δ[i]? = some (.ow ds0)) (h : f δ = .ok aa δ1) (e : res δ1 (norm aa) = some (.lst es)) (e2 : δ1[i]? = some (.ow ds)) (hl : ds.length + es.length ≤ sizeLine) : fExtend i f δ = .ok .nx (δ1.set i (.ow (ds ++ es))) := by
  unfold fExtend
  have : isOw i δ = true := by unfold isOw; rw [ho]
  simp only [this, if_true]
  unfold fExt0 fN DM.bd DM.ret
  simp only [h, e, e2, hl, if_true]
theorem ev_rev {i : Nat} {δ : DSt} {ds : List D} (h : δ[i]? = some (.ow ds)) : fRev i δ = .ok .nx (δ.set i (.ow ds.reverse)) := by unfold fRev; rw [h]
end
end DL
namespace DL
open PySem PySem.Spec PyProof.Rows L2
inductive Rn where
  | un | ok (d : D) (mss : List (List D)) | own (ds : List D) (mss : List (List D))
noncomputable def putO : DSt → List Nat → List (List D) → DSt
  | δ, i :: is, ms :: mss => putO (δ.set i (.ow ms)) is mss
  | δ, _, _ => δ
noncomputable def getO (δ : DSt) : List Nat → Option (List (List D))
  | [] => some []
  | i :: is => match δ[i]?, getO δ is with
    | some (.ow ms), some r => some (ms :: r)
    | _, _ => none
section
variable {K : PySem.W.Frag} {E : Str → Hp → Prop} {H H' : Hp} {Ω Ω' : Om} {σ : St} {δ : DSt} {pr : Nat → Addr} {jf : Nat → Nat}
noncomputable def Lists (K : PySem.W.Frag) (H : Hp) (Ω : Om) (pr : Nat → Addr) : List Nat → List (List D) → Prop
  | [], mss => mss = []
  | i :: is, mss => ∃ ms r, mss = ms :: r ∧ (∃ xs, H (pr i) = some (.lst xs) ∧ Ω (pr i) = some (i + 2) ∧ Reps K H Ω ms xs) ∧ Lists K H Ω pr is r
theorem Lists.len : ∀ {is : List Nat} {mss : List (List D)}, Lists K H Ω pr is mss → mss.length = is.length
  | [], _, h => by rw [(show _ = [] from h)]; rfl
  | i :: is, _, h => by
    obtain ⟨ms, r, rfl, _, h2⟩ := h
    rw [List.length_cons, List.length_cons, Lists.len h2]
theorem Lists.at : ∀ {is : List Nat} {mss : List (List D)} {k i : Nat} {ms : List D}, Lists K H Ω pr is mss → is[k]? = some i → mss[k]? = some ms → ∃ xs, H (pr i) = some (.lst xs) ∧ Ω (pr i) = some (i + 2) ∧ Reps K H Ω ms xs
  | [], _, _, _, _, _, e, _ => by simp at e
  | a :: is, _, 0, i, ms, h, e, e2 => by
    obtain ⟨m, r, rfl, h1, h2⟩ := h
    have : a = i := by simpa using e
    subst this
    have : m = ms := by simpa using e2
    subst this
    exact h1
  | a :: is, _, k + 1, i, ms, h, e, e2 => by
    obtain ⟨m, r, rfl, h1, h2⟩ := h
    exact Lists.at (k := k) h2 (by simpa using e) (by simpa using e2)
theorem Lists.mem {is : List Nat} {mss : List (List D)} {i : Nat} (h : Lists K H Ω pr is mss) (hi : i ∈ is) : ∃ xs, H (pr i) = some (.lst xs) ∧ Ω (pr i) = some (i + 2) := by
  obtain ⟨k, hk, e⟩ := List.mem_iff_getElem.mp hi
  have hm : k < mss.length := by rw [h.len]; exact hk
  obtain ⟨xs, h1, h2, _⟩ := h.at (k := k) (i := i) (ms := mss[k]) (by rw [List.getElem?_eq_getElem hk, e]) (List.getElem?_eq_getElem hm)
  exact ⟨xs, h1, h2⟩
noncomputable def RnQ (K : PySem.W.Frag) (H : Hp) (Ω : Om) (pr : Nat → Addr) (is : List Nat) (Q : VK) : Rn → Prop
  | .un => False
  | .ok d mss => ∀ H' Ω', Ext H Ω H' Ω' → Trk H' Ω' → Lists K H' Ω' pr is mss → ∀ v, Rep K H' Ω' d v → Q v H'
  | .own ds mss => ∀ H' Ω', Ext H Ω H' Ω' → Trk H' Ω' → Lists K H' Ω' pr is mss → ∀ v, RepDV K H' Ω' [] (.own ds) v → Q v H'
noncomputable def RepsY (K : PySem.W.Frag) (H : Hp) (Ω : Om) (is : List Nat) (ds : List D) (vs : List V) : Prop := ds.length = vs.length ∧ ∀ j d, j ∉ is → ds[j]? = some d → ∃ v, vs[j]? = some v ∧ Rep K H Ω d v
noncomputable def spN (K : PySem.W.Frag) (n : Nat) (is : List Nat) (M : List D → List (List D) → Rn) : Sp := fun vs H Q _ => vs.length = n ∧ ∃ Ω ds pr mss, Trk H Ω ∧ (∀ i ∈ is, vs[i]? = some (.ref (pr i))) ∧ Lists K H Ω pr is mss ∧ (∀ b k, Ω b = some k → k = 0 ∨ ∃ i ∈ is, b = pr i) ∧ RepsY K H Ω is ds vs ∧ RnQ K H Ω pr is Q (M ds mss)
theorem RepS.lists {is : List Nat} {mss : List (List D)} (R : RepS K H Ω σ δ) (hσ : ∀ i ∈ is, σ[i]? = some (some (.ref (pr i)))) (h : getO δ is = some mss) : Lists K H Ω pr is mss := by
  induction is generalizing mss with
  | nil => cases h; rfl
  | cons i is ih =>
    unfold getO at h
    split at h
    · rename_i ms r e1 e2
      cases h
      obtain ⟨b, ys, q1, q2, q3, q4⟩ := R.sl i _ e1
      rw [hσ i List.mem_cons_self] at q1
      cases q1
      exact ⟨ms, r, rfl, ⟨ys, q2, q3, q4⟩, ih (fun j hj => hσ j (List.mem_cons_of_mem _ hj)) e2⟩
    · cases h
end
section
variable {P : Program} {w : World} {K : PySem.W.Frag} {mg : Str → Option Value} {base : Heap}
end
noncomputable def slotsOf (as : List DV) : List Nat → Option (List Nat)
  | [] => some []
  | i :: is => match as[i]?, slotsOf as is with
    | some (.slot j), some r => some (j :: r)
    | _, _ => none
noncomputable def valsY (is : List Nat) : Nat → List DV → Option (List D)
  | _, [] => some []
  | k, .val d :: r => (valsY is (k + 1) r).map fun ds => d :: ds
  | k, _ :: r => if k ∈ is then (valsY is (k + 1) r).map fun ds => .non :: ds else none
noncomputable def rnRs : Rn → DSt → List Nat → Rs DV
  | .un, _, _ => .un
  | .ok d mss, δ, js => .ok (.val d) (putO δ js mss)
  | .own es mss, δ, js => .ok (.own es) (putO δ js mss)
noncomputable def fCallN (n : Nat) (is : List Nat) (fa : DM (List DV)) (M : List D → List (List D) → Rn) : DM DV := fa.bd fun as δ => match slotsOf as is with
  | some js => if js.Nodup then (match getO δ js, valsY is 0 as with
    | some mss, some ds => if ds.length = n then rnRs (M ds mss) δ js else .un
    | _, _ => .un) else .un
  | none => .un
section
variable {K : PySem.W.Frag} {E : Str → Hp → Prop} {H H' : Hp} {Ω Ω' : Om} {σ : St} {δ : DSt} {pr : Nat → Addr} {jf : Nat → Nat} {is : List Nat}
theorem RepDVs.get : ∀ {as : List DV} {vs : List V} {i : Nat} {a : DV}, RepDVs K H Ω σ as vs → as[i]? = some a → ∃ v, vs[i]? = some v ∧ RepDV K H Ω σ a v
  | [], _, _, _, _, e => by simp at e
  | b :: r, _, 0, a, h, e => by
    obtain ⟨v, q, e1, e2, e3⟩ := h
    subst e1
    have : b = a := by simpa using e
    subst this
    exact ⟨v, rfl, e2⟩
  | _ :: r, _, i + 1, a, h, e => by
    obtain ⟨v, q, e1, e2, e3⟩ := h
    subst e1
    obtain ⟨w, q1, q2⟩ := RepDVs.get (i := i) e3 (by simpa using e)
    exact ⟨w, by simpa using q1, q2⟩
end
section
variable {X : Cx} {E : Str → Hp → Prop} {pos : Pos} {e : Expr}
structure DefN (P : Program) (w : World) (K : PySem.W.Frag) (mg : Str → Option Value) (base : Heap) (k : Nat) (x : Str) (n : Nat) (is : List Nat) (M : List D → List (List D) → Rn) : Prop where
  ex : ∃ (f : Addr) (fd : FuncData) (ps : List Str), FnOk P w K mg base CX0 k f fd ps (spN K n is M) ∧ mg x = some (.ref f) ∧ PySem.W.keepIn K (.ref f) = true ∧ Binds K fd ps []
end
section
variable {δ δ1 : DSt} {d : D} {ds es : List D} {mss mss' : List (List D)} {is js : List Nat} {n : Nat} {as : List DV} {fa : DM (List DV)} {body : DM Fl}
theorem rnRs_ok : rnRs (.ok d mss) δ js = .ok (.val d) (putO δ js mss) := rfl
theorem rnRs_own : rnRs (.own es mss) δ js = .ok (.own es) (putO δ js mss) := rfl
theorem ev_callN {M : List D → List (List D) → Rn} {rn : Rn} {Z : Rs DV} (h : fa δ = .ok as δ1) (e : slotsOf as is = some js) (hn : js.Nodup) (e2 : getO δ1 js = some mss) (e3 : valsY is 0 as = some ds) (hl : ds.length = n) (hM : M ds mss = rn) (hr : rnRs rn δ1 js = Z) : fCallN n is fa M δ = Z := by
  unfold fCallN DM.bd
  simp only [h, e, hn, e2, e3, hl, if_true, hM]
  exact hr
end
end DL
namespace L2
open PySem PySem.Spec PyProof.Rows
section
variable {κ : Type} [DecidableEq κ]
noncomputable def valV (kvs : List (κ × V)) (k : κ) : Option V := (kvs.find? fun kv => decide (kv.1 = k)).map (·.2)
noncomputable def putK (kvs : List (κ × V)) (k : κ) (v : V) : List (κ × V) :=
  if (kvs.any fun kv => decide (kv.1 = k)) = true then kvs.map (fun kv => if kv.1 = k then (kv.1, v) else kv) else kvs ++ [(k, v)]
noncomputable def dropK (kvs : List (κ × V)) (k : κ) : List (κ × V) := kvs.filter fun kv => decide (kv.1 ≠ k)
theorem valV_pos {p : κ × V} {r : List (κ × V)} {k : κ} (e : p.1 = k) : valV (p :: r) k = some p.2 := by simp [valV, List.find?_cons, e]
theorem valV_neg {p : κ × V} {r : List (κ × V)} {k : κ} (e : ¬ p.1 = k) : valV (p :: r) k = valV r k := by simp [valV, List.find?_cons, e]
theorem valV_any (k : κ) : ∀ kvs : List (κ × V), (kvs.any fun kv => decide (kv.1 = k)) = (valV kvs k).isSome
  | [] => rfl
  | p :: r => by
    rw [List.any_cons]
    by_cases e : p.1 = k
    · simp only [valV_pos e, decide_eq_true e, Bool.true_or, Option.isSome_some]
    · rw [valV_neg e, decide_eq_false e, Bool.false_or]; exact valV_any k r
theorem length_putK (kvs : List (κ × V)) (k : κ) (v : V) : (putK kvs k v).length ≤ kvs.length + 1 := by
  unfold putK
  split
  · rw [List.length_map]; omega
  · rw [List.length_append, List.length_cons, List.length_nil]; omega
theorem putK_new {kvs : List (κ × V)} {k : κ} (v : V) (h : valV kvs k = none) : putK kvs k v = kvs ++ [(k, v)] := by
  unfold putK
  rw [valV_any, h]
  exact if_neg (by decide)
theorem RelO.isSome_eq {o : Option V} {u : Option Value} (r : RelO o u) : o.isSome = u.isSome := by
  cases o with
  | none => cases u with
    | none => rfl
    | some _ => exact (show False from r).elim
  | some _ => cases u with
    | none => exact (show False from r).elim
    | some _ => rfl
theorem RelO.getD {o : Option V} {u : Option Value} {d : V} {d' : Value} (r : RelO o u) (rd : RelV d d') : RelV (o.getD d) (u.getD d') := by
  cases o with
  | none => cases u with
    | none => exact rd
    | some _ => exact (show False from r).elim
  | some _ => cases u with
    | none => exact (show False from r).elim
    | some _ => exact r
theorem KV.val {kvs : List (κ × V)} {vs : List (κ × Value)} (r : KV kvs vs) (k : κ) : RelO (valV kvs k) (valueAt vs k) := by
  unfold KV at r
  induction r with
  | nil => exact True.intro
  | @cons p q ps qs h t ih =>
    obtain ⟨h1, h2⟩ := h
    by_cases e : p.1 = k
    · have e' : q.1 = k := h1.symm.trans e
      have b : valueAt (q :: qs) k = some q.2 := by simp [valueAt, List.find?_cons, e']
      rw [valV_pos e, b]; exact h2
    · have e' : ¬ q.1 = k := fun z => e (h1.trans z)
      have b : valueAt (q :: qs) k = valueAt qs k := by simp [valueAt, List.find?_cons, e']
      rw [valV_neg e, b]; exact ih
theorem KV.any {kvs : List (κ × V)} {vs : List (κ × Value)} (r : KV kvs vs) (k : κ) : (kvs.any fun kv => decide (kv.1 = k)) = vs.any fun kv => decide (kv.1 = k) := by
  unfold KV at r
  induction r with
  | nil => rfl
  | cons h t ih => rw [List.any_cons, List.any_cons, ih, h.1]
theorem KV.repl {kvs : List (κ × V)} {vs : List (κ × Value)} (r : KV kvs vs) (k : κ) {y : V} {u : Value} (ry : RelV y u) :
    KV (kvs.map fun kv => if kv.1 = k then (kv.1, y) else kv) (vs.map fun kv => if kv.1 = k then (kv.1, u) else kv) := by
  unfold KV at r ⊢
  induction r with
  | nil => exact .nil
  | @cons p q ps qs h t ih =>
    rw [List.map_cons, List.map_cons]
    refine .cons ?_ ih
    obtain ⟨h1, h2⟩ := h
    by_cases e : p.1 = k
    · rw [if_pos e, if_pos (h1.symm.trans e)]; exact ⟨h1, ry⟩
    · rw [if_neg e, if_neg (fun z => e (h1.trans z))]; exact ⟨h1, h2⟩
theorem KV.put {kvs : List (κ × V)} {vs : List (κ × Value)} (r : KV kvs vs) (k : κ) {y : V} {u : Value} (ry : RelV y u) : KV (putK kvs k y) (stored vs k u) := by
  unfold putK stored
  rw [r.any k]
  by_cases e : (vs.any fun kv => decide (kv.1 = k)) = true
  · rw [if_pos e, if_pos e]; exact r.repl k ry
  · rw [if_neg e, if_neg e]; exact Paired.snoc r ⟨rfl, ry⟩
theorem KV.drop {kvs : List (κ × V)} {vs : List (κ × Value)} (r : KV kvs vs) (k : κ) : KV (dropK kvs k) (without vs k) := by
  unfold KV at r ⊢
  unfold dropK without
  induction r with
  | nil => exact .nil
  | @cons p q ps qs h t ih =>
    obtain ⟨h1, h2⟩ := h
    rw [List.filter_cons, List.filter_cons]
    by_cases e : p.1 = k
    · have a : ¬ decide (p.1 ≠ k) = true := by simp [e]
      have b : ¬ decide (q.1 ≠ k) = true := by simp [h1.symm.trans e]
      rw [if_neg a, if_neg b]; exact ih
    · have e' : ¬ q.1 = k := fun z => e (h1.trans z)
      have a : decide (p.1 ≠ k) = true := by simp [e]
      have b : decide (q.1 ≠ k) = true := by simp [e']
      rw [if_pos a, if_pos b]; exact .cons ⟨h1, h2⟩ ih
theorem KV.length {kvs : List (κ × V)} {vs : List (κ × Value)} (r : KV kvs vs) : kvs.length = vs.length := Paired.length r
end
theorem kV_is {P : Program} {w : World} {k : Key} {u : Value} (r : RelV (kV k) u) : (mixKind P w).is k u = true := by
  cases k with
  | inl i => obtain ⟨t, e⟩ := (show ∃ t, u = Value.int i t from r); subst e; exact mixKind_int P w i t
  | inr x => obtain ⟨t, e⟩ := (show ∃ t, u = Value.str x t from r); subst e; exact mixKind_str P w x t
theorem items_are {P : Program} {w : World} : ∀ {ks : List Key} {us : List Value}, Vals (ks.map kV) us → ItemsAre (mixKind P w) ks us
  | [], _, r => by rw [List.map_nil] at r; cases r; exact .nil
  | k :: ks, _, r => by
    rw [List.map_cons] at r
    cases r with
    | cons h t => exact .cons (kV_is h) (items_are t)
noncomputable abbrev KT (H : Hp) : List (List Key × V) → List (List Key × Addr × Value) → Prop := Paired fun p q => p.1 = q.1 ∧ H q.2.1 = some (.tup (p.1.map kV)) ∧ RelV p.2 q.2.2
theorem KT.val {H : Hp} {kvs : List (List Key × V)} {xs : List (List Key × Addr × Value)} (r : KT H kvs xs) (k : List Key) : RelO (valV kvs k) ((atKey xs k).map (·.2)) := by
  induction r with
  | nil => exact True.intro
  | @cons p q ps qs h t ih =>
    obtain ⟨h1, _, h2⟩ := h
    by_cases e : p.1 = k
    · have e' : q.1 = k := h1.symm.trans e
      have b : atKey (q :: qs) k = some q.2 := by simp [atKey, List.find?_cons, e']
      rw [valV_pos e, b]; exact h2
    · have e' : ¬ q.1 = k := fun z => e (h1.trans z)
      have b : atKey (q :: qs) k = atKey qs k := by simp [atKey, List.find?_cons, e']
      rw [valV_neg e, b]; exact ih
theorem KT.repl {H : Hp} {kvs : List (List Key × V)} {xs : List (List Key × Addr × Value)} (r : KT H kvs xs) (k : List Key) {y : V} {u : Value} (ry : RelV y u) :
    KT H (kvs.map fun kv => if kv.1 = k then (kv.1, y) else kv) (xs.map (putAt k u)) := by
  induction r with
  | nil => exact .nil
  | @cons p q ps qs h t ih =>
    rw [List.map_cons, List.map_cons]
    refine .cons ?_ ih
    obtain ⟨h1, h2, h3⟩ := h
    unfold putAt
    by_cases e : p.1 = k
    · rw [if_pos e, if_pos (h1.symm.trans e)]; exact ⟨h1, h2, ry⟩
    · rw [if_neg e, if_neg (fun z => e (h1.trans z))]; exact ⟨h1, h2, h3⟩
theorem KT.put {H : Hp} {kvs : List (List Key × V)} {xs : List (List Key × Addr × Value)} (r : KT H kvs xs) (k : List Key) {b : Addr} {y : V} {u : Value} (hb : H b = some (.tup (k.map kV))) (ry : RelV y u) :
    KT H (putK kvs k y) (storedH xs k b u) := by
  have e : (kvs.any fun kv => decide (kv.1 = k)) = (atKey xs k).isSome := by
    rw [valV_any, (r.val k).isSome_eq, Option.isSome_map]
  unfold putK storedH
  rw [e]
  by_cases q : (atKey xs k).isSome = true
  · rw [if_pos q, if_pos q]; exact r.repl k ry
  · rw [if_neg q, if_neg q]; exact Paired.snoc r ⟨rfl, hb, ry⟩
theorem KT.keeps {H H' : Hp} {kvs : List (List Key × V)} {xs : List (List Key × Addr × Value)} (r : KT H kvs xs) (ht : ∀ b ys, H b = some (.tup ys) → H' b = some (.tup ys)) : KT H' kvs xs :=
  Paired.mapP r fun _ _ z => ⟨z.1, ht _ _ z.2.1, z.2.2⟩
section
variable {P : Program} {w : World} {H : Hp} {h : Heap} {a : Addr}
theorem rd_of {u : HO} (ok : HOk P w H h) (e : Rd H a u) : ObjOk P w H h a u := e.ok ok
theorem dk_rd {kvs : List (Key × V)} (ok : HOk P w H h) (e : Rd H a (.dK kvs)) : kvs.length ≤ sizeLine ∧ (a == sysModules) = false ∧ ∃ vs, KV kvs vs ∧ h.DictOf (mixKind P w) a vs :=
  show ObjOk P w H h a (.dK kvs) from rd_of ok e
theorem dk_of {kvs : List (Key × V)} (ok : HOk P w H h) (e : H a = some (.dK kvs)) : kvs.length ≤ sizeLine ∧ (a == sysModules) = false ∧ ∃ vs, KV kvs vs ∧ h.DictOf (mixKind P w) a vs := dk_rd ok (.inl e)
theorem key_of {ks : List Key} (ok : HOk P w H h) (e : H a = some (.tup (ks.map kV))) : (tupleKind (mixKind P w)).is h ks a := by
  obtain ⟨_, its, r, o, h1, h2, n, h3⟩ := (show ObjOk P w H h a (.tup (ks.map kV)) from ok a _ e)
  exact ⟨o, its.toArray, n, h1, h2, h3, by simpa using items_are r⟩
theorem dt_rd {kvs : List (List Key × V)} (ok : HOk P w H h) (e : Rd H a (.dT kvs)) : kvs.length ≤ sizeLine ∧ (a == sysModules) = false ∧
    ∃ xs, KT H kvs xs ∧ h.DictOfH (tupleKind (mixKind P w)) a xs := by
  obtain ⟨z, y, xs, r, o, es, ep, h1, h2, h3, h4, h5⟩ := (show ObjOk P w H h a (.dT kvs) from rd_of ok e)
  refine ⟨z, y, xs, r, o, es, ep, h1, h2, h3, h4, fun x hx => ?_, h5⟩
  have all : ∀ {l : List (List Key × V)} {m : List (List Key × Addr × Value)}, KT H l m → ∀ x ∈ m, (tupleKind (mixKind P w)).is h x.1 x.2.1 := by
    intro l m q
    induction q with
    | nil => intro x hx; exact nomatch hx
    | @cons p q ps qs hq t ih =>
      intro x hx
      rcases List.mem_cons.mp hx with e | hx
      · subst e
        exact key_of ok (by rw [← hq.1]; exact hq.2.1)
      · exact ih x hx
  exact all r x hx
theorem dt_of {kvs : List (List Key × V)} (ok : HOk P w H h) (e : H a = some (.dT kvs)) : kvs.length ≤ sizeLine ∧ (a == sysModules) = false ∧
    ∃ xs, KT H kvs xs ∧ h.DictOfH (tupleKind (mixKind P w)) a xs := dt_rd ok (.inl e)
end
noncomputable def DGet (H : Hp) (a : Addr) (y : V) (r : Option V) : Prop :=
  (∃ kvs k, Rd H a (.dK kvs) ∧ y = kV k ∧ r = valV kvs k) ∨ ∃ kvs k b, Rd H a (.dT kvs) ∧ y = .ref b ∧ H b = some (.tup (k.map kV)) ∧ r = valV kvs k
noncomputable def DPut (H : Hp) (a : Addr) (y v : V) (H' : Hp) : Prop :=
  (∃ kvs k, H a = some (.dK kvs) ∧ y = kV k ∧ kvs.length < sizeLine ∧ H' = upd H a (.dK (putK kvs k v))) ∨
  ∃ kvs k b, H a = some (.dT kvs) ∧ y = .ref b ∧ H b = some (.tup (k.map kV)) ∧ kvs.length < sizeLine ∧ H' = upd H a (.dT (putK kvs k v))
theorem DGet.k {H : Hp} {a : Addr} {kvs : List (Key × V)} {k : Key} (e : H a = some (.dK kvs)) : DGet H a (kV k) (valV kvs k) := .inl ⟨kvs, k, .inl e, rfl, rfl⟩
theorem DGet.t {H : Hp} {a b : Addr} {kvs : List (List Key × V)} {k : List Key} (e : H a = some (.dT kvs)) (eb : H b = some (.tup (k.map kV))) : DGet H a (.ref b) (valV kvs k) := .inr ⟨kvs, k, b, .inl e, rfl, eb, rfl⟩
theorem DPut.k {H : Hp} {a : Addr} {kvs : List (Key × V)} {k : Key} {v : V} (e : H a = some (.dK kvs)) (hl : kvs.length < sizeLine) : DPut H a (kV k) v (upd H a (.dK (putK kvs k v))) := .inl ⟨kvs, k, e, rfl, hl, rfl⟩
theorem DPut.t {H : Hp} {a b : Addr} {kvs : List (List Key × V)} {k : List Key} {v : V} (e : H a = some (.dT kvs)) (eb : H b = some (.tup (k.map kV))) (hl : kvs.length < sizeLine) :
    DPut H a (.ref b) v (upd H a (.dT (putK kvs k v))) := .inr ⟨kvs, k, b, e, rfl, eb, hl, rfl⟩
section
variable {X : Cx} {pins : List (Addr × Obj)} {σ : St} {H : Hp} {s : Shared} {a : Addr} {y v : V} {u r : Value} {o : Option V} {A : Around} {E : Value → Shared → Prop}
theorem Inv.big (I : Inv X pins σ H s) : sysModules < s.heap.objs.size := by
  have h : mainGlobals < s.heap.objs.size := (I.mod.glob.keeps I.bk).lt
  exact Nat.lt_trans (by decide) h
theorem d_in {Q : Value → Shared → Prop} (hu : A.units + 1 < cLine) (I : Inv X pins σ H s) (g : DGet H a y o) (ry : RelV y u) (h : ∀ s', Inv X pins σ H s' → Q (.bool o.isSome) s') :
    wpAny (model X.prog X.w) A (compareOp .In u (.ref a)) Q E s := by
  rcases g with ⟨kvs, k, e, ey, l⟩ | ⟨kvs, k, b, e, ey, eb, l⟩
  · subst ey
    obtain ⟨z, hd, vs, rel, dd⟩ := dk_rd I.hok e
    refine wpAny_in_of (kV_is ry) hd dd.mapOf ?_
    rw [← (rel.val k).isSome_eq, ← l]
    exact h _ (I.tok _)
  · subst ey
    cases (show u = Value.ref b from ry)
    obtain ⟨z, hd, xs, rel, dd⟩ := dt_rd I.hok e
    refine wpAny_in_heap (tupleKind_room_in1 hu) (key_of I.hok eb) hd dd ?_
    have q := (rel.val k).isSome_eq
    rw [Option.isSome_map] at q
    rw [← q, ← l]
    exact h _ (I.tok _)
theorem d_write {h' : Heap} {t' : Nat} {ob : HO} (I : Inv X pins σ H s) (mu : Mut (H a)) (hs : Heap.SameBut a s.heap h') (he : ∃ q, h'.get? a = some q) (new : ObjOk X.prog X.w (upd H a ob) h' a ob) :
    Inv X pins σ (upd H a ob) { s with heap := h', toks := t' } :=
  I.write (x := a) (e := a) mu (.inl rfl) (fun b q hb z => (hs.2 b hb).trans z) he new
theorem dk_new {P : Program} {w : World} {H' : Hp} {h' : Heap} {kvs : List (Key × V)} {vs : List (Key × Value)} (z : kvs.length ≤ sizeLine) (hd : (a == sysModules) = false) (rel : KV kvs vs) (dd : h'.DictOf (mixKind P w) a vs) :
    ObjOk P w H' h' a (.dK kvs) := ⟨z, hd, vs, rel, dd⟩
theorem d_setItem {H' : Hp} {Q : Unit → Shared → Prop} (hu : A.units + 1 < cLine) (I : Inv X pins σ H s) (g : DPut H a y v H') (ry : RelV y u) (rv : RelV v r) (h : ∀ s', Inv X pins σ H' s' → Q () s') :
    wpAny (model X.prog X.w) A (setItem (.ref a) u r) Q E s := by
  rcases g with ⟨kvs, k, e, ey, l, eH⟩ | ⟨kvs, k, b, e, ey, eb, l, eH⟩
  · subst ey eH
    obtain ⟨z, hd, vs, rel, dd⟩ := dk_of I.hok e
    have hz : vs.length ≤ sizeLine := by rw [← rel.length]; exact z
    have hl : (putK kvs k v).length ≤ sizeLine := by have := length_putK kvs k v; omega
    refine wpAny_setItem_pairs (hsz := hz) (kV_is ry) dd fun h' dd' hs => h _ ?_
    have he : ∃ q, h'.get? a = some q := let ⟨q, _, _, hq, _⟩ := dd'; ⟨q, hq⟩
    exact d_write I (by rw [e]; exact True.intro) hs he (dk_new hl hd (rel.put k rv) dd')
  · subst ey eH
    cases (show u = Value.ref b from ry)
    obtain ⟨z, hd, xs, rel, dd⟩ := dt_of I.hok e
    have hz : xs.length ≤ sizeLine := by rw [← Paired.length rel]; exact z
    have hl : (putK kvs k v).length ≤ sizeLine := by have := length_putK kvs k v; omega
    refine wpAny_setItem_heap (hsz := hz) (tupleKind_room_in1 hu) (key_of I.hok eb) dd fun h' dd' hs => h _ ?_
    obtain ⟨q, es, ep, hq, h2, h3, h4, _, h5⟩ := dd'
    refine d_write I (by rw [e]; exact True.intro) hs ⟨q, hq⟩ ⟨hl, hd, _, (rel.put k eb rv).keeps fun c ys ec => ?_, q, es, ep, hq, h2, h3, h4, h5⟩
    rw [upd_ne (ne_of ec e (fun z => nomatch z))]
    exact ec
end
section
variable {X : Cx} {pins : List (Addr × Obj)} {σ : St} {H : Hp} {s : Shared} {a : Addr} {kvs : List (Key × V)} {k : Key} {u : Value} {A : Around} {E : Value → Shared → Prop}
end
noncomputable def tDIn (ty td : TE) : TE := fun σ H Q => ty σ H fun y H1 => td σ H1 fun x H2 => ∃ a o, x = .ref a ∧ DGet H2 a y o ∧ Q (.bl o.isSome) H2
noncomputable def sDPut (td ty tv : TE) : TS := fun D σ H => tv σ H fun v H1 => td σ H1 fun x H2 => ty σ H2 fun y H3 => ∃ a H4, x = .ref a ∧ DPut H3 a y v H4 ∧ D.nx σ H4
section
variable {X : Cx} {o i e value : Expr} {pos pos' tpos : Pos} {td ty tv : TE}
theorem pc_din (hu : X.A.units + 1 < cLine) (hi : PE X i ty) (ho : PE X o td) : PC X .In i o (tDIn ty td) := by
  intro pins s σ H Q I h
  refine thn (hi pins s σ H _ I h) fun iv s1 ⟨y, H1, I1, ry, q1⟩ => thn (ho pins s1 σ H1 _ I1 q1) fun u s2 ⟨x, H2, I2, rx, a, ov, ex, g, q2⟩ => ?_
  subst ex
  obtain rfl : u = Value.ref a := rx
  exact d_in hu I2 g ry fun s3 I3 => ⟨.bl ov.isSome, H2, I3, rfl, q2⟩
theorem ps_dput (hu : X.A.units + 1 < cLine) (ho : PE X o td) (hi : PE X i ty) (hv : PE X value tv) (hs : swapsWith value (some (.Subscript o i pos')) pos.line X.env = pure false) :
    PS X (.Assign [.Subscript o i pos'] value pos) (sDPut td ty tv) := by
  intro pins s σ H D I h
  refine wpAny_Assign_Subscript (thn (hv pins s σ H _ I h) fun r s1 ⟨v, H1, I1, rv, q1⟩ => thn (ho pins s1 σ H1 _ I1 q1) fun u s2 ⟨x, H2, I2, rx, q2⟩ => thn (hi pins s2 σ H2 _ I2 q2) fun iv s3 ⟨y, H3, I3, ry, a, H4, ex, g, q3⟩ => ?_) hs
  subst ex
  obtain rfl : u = Value.ref a := rx
  exact d_setItem hu I3 g ry rv fun s4 I4 => ⟨σ, H4, I4, q3⟩
end
theorem dk_empty {P : Program} {w : World} {H : Hp} (h : Heap) (hb : sysModules < h.objs.size) : ObjOk P w H (h.push { cls := .type "dict", data := .dict #[] }) h.objs.size (.dK []) :=
  ⟨Nat.zero_le _, beq_eq_false_iff_ne.mpr (Ne.symm (Nat.ne_of_lt hb)), [], .nil, Heap.DictOf.new h⟩
noncomputable def tDNewK : TE := fun _ H Q => ∀ p, H p = none → Q (.ref p) (upd H p (.dK []))
section
variable {X : Cx} {pos : Pos}
theorem pe_dnewK : PE X (.Dict [] [] pos) tDNewK := fun pins s σ H Q I h =>
  wpAny_Dict_empty ⟨.ref s.heap.objs.size, _, I.laid (a := s.heap.objs.size) (o := .dK []) (t' := s.toks) (fun _ _ q => Heap.get?_push_of_some _ q) (Nat.le_refl _) (dk_empty s.heap I.big), rfl, h _ (I.hok.fresh (Nat.le_refl _))⟩
end
structure M1 (X : Cx) (o : Expr) (m : Str) (apos : Pos) (e : Expr) (cpos : Pos) : Prop where
  base : attributeBase o m X.env (eval o X.env) = eval o X.env
  few : ((backTo cpos (starEach [e] X.env)).all (fun x => !x.1) && (backToKw cpos (keywordEach [] X.env)).all (fun x => x.1.isSome)
    && decide (([e] : List Expr).length + ([] : List Keyword).length + (if ([] : List Keyword).isEmpty then 0 else 1) < 30)) = true
  line : (apos.endLine == cpos.line) = true
  trees : backTo cpos (starEach [e] X.env) = [(false, eval e X.env)]
structure M2 (X : Cx) (o : Expr) (m : Str) (apos : Pos) (e f : Expr) (cpos : Pos) : Prop where
  base : attributeBase o m X.env (eval o X.env) = eval o X.env
  few : ((backTo cpos (starEach [e, f] X.env)).all (fun x => !x.1) && (backToKw cpos (keywordEach [] X.env)).all (fun x => x.1.isSome)
    && decide (([e, f] : List Expr).length + ([] : List Keyword).length + (if ([] : List Keyword).isEmpty then 0 else 1) < 30)) = true
  line : (apos.endLine == cpos.line) = true
  trees : backTo cpos (starEach [e, f] X.env) = [(false, eval e X.env), (false, eval f X.env)]
section
variable {X : Cx} {pins : List (Addr × Obj)} {σ : St} {H : Hp} {s : Shared} {a : Addr} {y d : V} {u r : Value} {o : Option V} {A : Around} {E : Value → Shared → Prop}
end
section
variable {X : Cx} {o e f : Expr} {apos cpos : Pos} {td ty tx : TE}
end
end L2
namespace DL
open PySem PySem.Spec PyProof.Rows L2
section
variable {K : PySem.W.Frag} {E : Str → Hp → Prop} {H H1 H2 H' : Hp} {Ω Ω1 Ω2 Ω' : Om} {σ : St} {δ : DSt} {mp : List Nat}
theorem Ext.allocK {p : Addr} {o : HO} {k : Nat} (hp : H p = none) (trk : Trk H Ω) : Ext H Ω (upd H p o) (ownTo Ω p (k + 1)) where
  keep := fun b o' e _ => by rw [upd_ne (ne_of_none e hp)]; exact e
  new := fun b e h => by
    unfold ownTo
    rw [if_neg (fun z => h (by rw [z]; exact hp))]
    exact e
  fr := fun b => by
    unfold ownTo
    split
    · rename_i z
      subst z
      constructor
      · intro q
        obtain ⟨vs, e, _⟩ := trk _ _ q
        rw [hp] at e; cases e
      · intro q; cases q
    · exact Iff.rfl
  live := fun b e => by
    unfold upd at e
    split at e
    · cases e
    · exact e
theorem RepS.allocK {p : Addr} {o : HO} {k : Nat} (R : RepS K H Ω σ δ) (hp : H p = none) (ho : fixO o = false) : RepS K (upd H p o) (DL.ownTo Ω p (k + 1)) σ δ :=
  R.ext (.allocK hp R.trk) (fun b j u q1 q2 => by
    have : b ≠ p := ne_of_none q2 hp
    exact ⟨by rw [upd_ne this]; exact q2, by unfold DL.ownTo; rw [if_neg this]; exact q1⟩) fun a j q => by
    by_cases h : a = p
    · subst h; exact ⟨_, upd_same, ho⟩
    · unfold DL.ownTo at q
      rw [if_neg h] at q
      obtain ⟨vs, e, f⟩ := R.trk a j q
      exact ⟨vs, by rw [upd_ne h]; exact e, f⟩
theorem Ext.putK {p : Addr} {k : Nat} {o : HO} (hl : ∃ vs, H p = some vs ∧ fixO vs = false) (hp : Ω p = some (k + 1)) : Ext H Ω (upd H p o) Ω := .putOw hl hp
theorem RepS.putK {i : Nat} {p : Addr} {o : HO} {s : Sl} (R : RepS K H Ω σ δ) (hl : ∃ vs, H p = some vs ∧ fixO vs = false) (hp : Ω p = some (i + 2)) (ho : fixO o = false) (hs : RepSl K (upd H p o) Ω i s (σ[i]?).join) : RepS K (upd H p o) Ω σ (δ.set i s) := by
  refine ⟨by rw [List.length_set]; exact R.len, fun j s' h => ?_, fun a k q => ?_⟩
  · by_cases hj : i = j
    · subst hj
      have hl' : i < δ.length := by
        have := (List.getElem?_eq_some_iff.mp h).1
        rwa [List.length_set] at this
      rw [List.getElem?_set_self hl'] at h
      cases h
      exact hs
    · rw [List.getElem?_set_ne hj] at h
      have ex : Ext H Ω (upd H p o) Ω := .putK hl hp
      refine (R.sl j s' h).mv (fun _ _ => .ext ex) (fun _ _ => .ext ex) fun a ws e3 e2 => ?_
      have ha : a ≠ p := by
        rintro rfl
        rw [hp] at e3
        exact hj (by have := Option.some.inj e3; omega)
      exact ⟨by rw [upd_ne ha]; exact e2, e3⟩
  · by_cases ha : a = p
    · subst ha; exact ⟨_, upd_same, ho⟩
    · obtain ⟨ws, e, f⟩ := R.trk a k q
      exact ⟨ws, by rw [upd_ne ha]; exact e, f⟩
theorem val_in : ∀ {ks : List Int} {kvs : List (Key × V)} (k : Int), kvs.map (·.1) = ks.map Sum.inl → (valV kvs (Sum.inl k : Key)).isSome = ks.contains k
  | [], [], _, _ => rfl
  | [], _ :: _, _, h => by cases h
  | _ :: _, [], _, h => by cases h
  | j :: ks, p :: kvs, k, h => by
    rw [List.map_cons, List.map_cons] at h
    injection h with h1 h2
    have ih := val_in k h2
    by_cases e : p.1 = (Sum.inl k : Key)
    · rw [valV_pos e]
      rw [e] at h1
      have : k = j := by injection h1
      subst this
      simp
    · rw [valV_neg e, ih]
      have : ¬ k = j := fun z => e (by rw [h1, z])
      rw [List.contains_cons]
      have : (k == j) = false := by simpa using this
      rw [this, Bool.false_or]
end
noncomputable def fDict0 (i : Nat) : DM Fl := fun δ => .ok .nx (δ.set i (.dc [] []))
noncomputable def fInD (f : DM DV) (i : Nat) : DM DV := (fN f).bd fun a δ => match res δ a, δ[i]? with
  | some (.int k), some (.dc ks _) => .ok (.val (.bl (ks.contains k))) δ
  | _, _ => .un
noncomputable def isDc (i : Nat) (δ : DSt) : Bool := match δ[i]? with | some (.dc _ _) => true | _ => false
noncomputable def fPutD (i : Nat) (f2 f1 : DM DV) : DM Fl := (fN f2).bd fun b => match b with
  | .val d => fun δ => if isDc i δ then ((fN f1).bd fun a δ => (match res δ a, δ[i]? with
    | some (.int k), some (.dc ks vs) => if ks.contains k = false ∧ ks.length < sizeLine then .ok .nx (δ.set i (.dc (ks ++ [k]) (vs ++ [d]))) else .un
    | _, _ => .un)) δ else .un
  | _ => fun _ => .un
section
variable {X : Cx} {E : Str → Hp → Prop} {pos : Pos} {e e1 : Expr} {f f1 : DM DV} {mp : List Nat}
theorem psd_dict0 (i : Nat) {x : Str} {pos' dpos : Pos} (hN : X.N.Nodup) (hi : X.N[i]? = some x := by rfl) (hx : Loc X.env.scope x := by first | exact Or.inl rfl | exact Or.inr rfl) (hm : i ∉ mp := by decide)
    (hs : swapsWith (.Dict [] [] dpos) (some (.Name x pos')) pos.line X.env = pure false := by rfl) (hf : X.fn x = true ∨ X.env.scope.names.lookup x = some .local := by first | exact .inl rfl | exact .inr rfl) : PSD X E mp (.Assign [.Name x pos'] (.Dict [] [] dpos) pos) (fDict0 i) := by
  refine ⟨_, ps_set hN hi hx pe_dnewK hs hf, fun σ H δ Ω R B h p hp => ?_⟩
  have R1 := R.allocK (o := .dK []) (k := i + 1) hp rfl
  refine h _ _ (.allocK hp R.trk) _ (R1.set ⟨p, [], rfl, upd_same, by unfold ownTo; rw [if_pos rfl], rfl, .nil⟩) (set_same hm)
theorem de_inD {K : PySem.W.Frag} {t : TE} (i : Nat) (d : DE K E t f) : DE K E (tDIn t (tVar i)) (fInD f i) := by
  intro σ H δ Ω R Q h
  refine d.use R h fun a y δ1 H1 Ω1 _ s1 R1 r1 h1 => ?_
  (try dsimp only at h1)
  split at h1
  · rename_i k ks vs q1 q2
    obtain ⟨b, kvs, e1, e2, e3, e4, e5⟩ := R1.sl i _ q2
    have hy : y = .int k := r1.res R1 q1
    subst hy
    refine ⟨.ref b, join_some e1, b, _, rfl, DGet.k (k := Sum.inl k) e2, ?_⟩
    rw [val_in k e4]
    exact Wg.now h1 R1 rfl
  · exact h1.elim
theorem ptd_inD (hu : X.A.units + 1 < cLine) (i : Nat) {x : Str} {p : Pos} (he : PED X E e f) (hN : X.N[i]? = some x := by rfl) (hv : Vis X.env.scope x := by first | exact Or.inl rfl | exact Or.inr (Or.inl rfl) | exact Or.inr (Or.inr rfl))
    (hd : (x == ("__debug__" : Str)) = false := by decide) (hcd : (x == ("__classdict__" : Str)) = false := by decide) (hb : behindInMarks .In (.Name x p) = false := by rfl) : PTD X E (.Compare e [.In] [.Name x p] pos) (fTest (fInD f i)) := by
  obtain ⟨t, q, d⟩ := he
  exact ⟨_, pt_cmp (pc_din hu q (pv i hN hv hd hcd)) hb, dt_tB (de_inD i d)⟩
theorem psd_putD (hu : X.A.units + 1 < cLine) (i : Nat) {x : Str} {p sp : Pos} (he : PED X E e f) (h1 : PED X E e1 f1) (hN : X.N[i]? = some x := by rfl) (hv : Vis X.env.scope x := by first | exact Or.inl rfl | exact Or.inr (Or.inl rfl) | exact Or.inr (Or.inr rfl))
    (hd : (x == ("__debug__" : Str)) = false := by decide) (hcd : (x == ("__classdict__" : Str)) = false := by decide)
    (hsw : swapsWith e (some (.Subscript (.Name x p) e1 sp)) pos.line X.env = pure false := by rfl) : PSD X E mp (.Assign [.Subscript (.Name x p) e1 sp] e pos) (fPutD i f f1) := by
  obtain ⟨t, q, d⟩ := he
  obtain ⟨t1, q1, d1⟩ := h1
  refine ⟨_, ps_dput hu (pv i hN hv hd hcd) q1 q hsw, fun σ H δ Ω R B h => ?_⟩
  refine d.use R h fun b y δ1 H1 Ω1 _ s1 R1 r1 w1 => ?_
  (try dsimp only at w1)
  split at w1
  · rename_i dd
    split at w1
    · rename_i ho
      unfold isDc at ho
      split at ho
      · rename_i ks0 vs0 hds
        obtain ⟨ad, kv0, e1, _⟩ := R1.sl i _ hds
        refine ⟨.ref ad, join_some e1, ?_⟩
        refine d1.use R1 w1 fun a1 z δ2 H2 Ω2 ex2 s2 R2 r2 w2 => ?_
        (try dsimp only at w2)
        split at w2
        · rename_i k ks vs hb hds2
          split at w2
          · rename_i hz
            obtain ⟨a', kvs, u1, u2, u3, u4, u5⟩ := R2.sl i _ hds2
            have ea : a' = ad := by
              have z := (join_some u1).symm.trans (join_some e1)
              injection z with z
              injection z with z
              injection z
            subst ea
            have rk : z = .int k := r2.res R2 hb
            subst rk
            have ry : Rep X.K H2 Ω2 dd y := Rep.ext ex2 r1
            have hn : valV kvs (Sum.inl k : Key) = none := by
              have := val_in k u4
              rw [hz.1] at this
              exact Option.not_isSome_iff_eq_none.mp (by rw [this]; exact Bool.false_ne_true)
            have hlen : kvs.length < sizeLine := by
              have := congrArg List.length u4
              rw [List.length_map, List.length_map] at this
              rw [this]; exact hz.2
            refine ⟨a', _, rfl, DPut.k (k := Sum.inl k) u2 hlen, ?_⟩
            rw [putK_new _ hn]
            have ml : ∃ vs, H2 a' = some vs ∧ fixO vs = false := ⟨_, u2, rfl⟩
            have ex : Ext H2 Ω2 (upd H2 a' (.dK (kvs ++ [(Sum.inl k, y)]))) Ω2 := .putK ml u3
            refine w2 _ Ω2 ex σ (R2.putK ml u3 rfl ⟨a', _, u1, upd_same, u3, ?_, ?_⟩) fun _ _ => rfl
            · rw [List.map_append, List.map_append, u4]; rfl
            · rw [List.map_append]
              exact (u5.append (.cons ry .nil)).ext ex
          · exact w2.elim
        · exact w2.elim
      · cases ho
    · exact w1.elim
  · exact w1.elim
end
section
variable {i : Nat} {δ δ1 δ2 : DSt} {f f1 f2 : DM DV}
theorem ev_dict0 : fDict0 i δ = .ok .nx (δ.set i (.dc [] [])) := rfl
theorem ev_inD {a : DV} {k : Int} {ks : List Int} {vs : List D} (h : f δ = .ok a δ1) (e : res δ1 (norm a) = some (.int k)) (hd : δ1[i]? = some (.dc ks vs)) : fInD f i δ = .ok (.val (.bl (ks.contains k))) δ1 := by
  unfold fInD fN DM.bd DM.ret; simp only [h, e, hd]
theorem ev_putD {a b : DV} {d : D} {k : Int} {ks ks0 : List Int} {vs vs0 : List D} (h2 : f2 δ = .ok b δ1) (e2 : norm b = .val d) (h0 : δ1[i]? = some (.dc ks0 vs0)) (h1 : f1 δ1 = .ok a δ2) (e : res δ2 (norm a) = some (.int k)) (hd : δ2[i]? = some (.dc ks vs)) (hk : ks.contains k = false) (hl : ks.length < sizeLine) :
    fPutD i f2 f1 δ = .ok .nx (δ2.set i (.dc (ks ++ [k]) (vs ++ [d]))) := by
  unfold fPutD fN DM.bd DM.ret
  have : isDc i δ1 = true := by unfold isDc; rw [h0]
  simp only [h2, e2, this, h1, e, hd, hk, hl, and_self, if_true]
end
end DL
namespace DL
open PySem PySem.Spec PyProof.Rows L2
noncomputable def hid (Ω : Om) (k : Nat) : Om := fun b => if Ω b = some (k + 2) then some 0 else Ω b
noncomputable def unh (Ω Ω' : Om) (k : Nat) : Om := fun b => if Ω b = some (k + 2) then some (k + 2) else Ω' b
noncomputable def freeK (Ω : Om) (k : Nat) : Om := fun b => if Ω b = some (k + 2) then none else Ω b
noncomputable def lab (Ω : Om) (S : List Addr) (k : Nat) : Om := fun b => if b ∈ S then some k else Ω b
section
variable {K : PySem.W.Frag} {E : Str → Hp → Prop} {H H1 H2 H' : Hp} {Ω Ω1 Ω2 Ω' : Om} {σ : St} {δ : DSt} {mp : List Nat} {k : Nat} {S : List Addr}
theorem unh_pos {b : Addr} (h : Ω b = some (k + 2)) : unh Ω Ω' k b = some (k + 2) := by unfold unh; rw [if_pos h]
theorem unh_neg {b : Addr} (h : Ω b ≠ some (k + 2)) : unh Ω Ω' k b = Ω' b := by unfold unh; rw [if_neg h]
theorem hid_pos {b : Addr} (h : Ω b = some (k + 2)) : hid Ω k b = some 0 := by unfold hid; rw [if_pos h]
theorem hid_neg {b : Addr} (h : Ω b ≠ some (k + 2)) : hid Ω k b = Ω b := by unfold hid; rw [if_neg h]
theorem lab_pos {b : Addr} (h : b ∈ S) : lab Ω S k b = some k := by unfold lab; rw [if_pos h]
theorem lab_neg {b : Addr} (h : b ∉ S) : lab Ω S k b = Ω b := by unfold lab; rw [if_neg h]
theorem unh_hid : unh Ω (hid Ω k) k = Ω := by
  funext b
  by_cases h : Ω b = some (k + 2)
  · rw [unh_pos h, h]
  · rw [unh_neg h, hid_neg h]
theorem Ext.unh2 (e : Ext H1 Ω1 H2 Ω2) (hb : ∀ b, Ω b = some (k + 2) → Ω1 b = some 0) : Ext H1 (unh Ω Ω1 k) H2 (unh Ω Ω2 k) where
  keep := fun b o q h => by
    by_cases z : Ω b = some (k + 2)
    · exact e.keep b o q (.inr (.inr (hb b z)))
    · rw [unh_neg z] at h; exact e.keep b o q h
  new := fun b q h => by
    by_cases z : Ω b = some (k + 2)
    · rw [unh_pos z] at q; cases q
    · rw [unh_neg z] at q ⊢; exact e.new b q h
  fr := fun b => by
    by_cases z : Ω b = some (k + 2)
    · rw [unh_pos z, unh_pos z]
    · rw [unh_neg z, unh_neg z]; exact e.fr b
  live := e.live
theorem Ext.unh (e : Ext H (hid Ω k) H2 Ω2) : Ext H Ω H2 (unh Ω Ω2 k) := by
  have := e.unh2 (Ω := Ω) (k := k) fun b q => hid_pos q
  rwa [unh_hid] at this
theorem trk_unh (e : Ext H (hid Ω k) H2 Ω2) (t : Trk H Ω) (t2 : Trk H2 Ω2) : Trk H2 (unh Ω Ω2 k) := fun b j q => by
  by_cases z : Ω b = some (k + 2)
  · obtain ⟨vs, w, f⟩ := t b _ z
    exact ⟨vs, e.keep b _ w (.inr (.inr (hid_pos z))), f⟩
  · rw [unh_neg z] at q; exact t2 b j q
theorem RepS.hid {i : Nat} (R : RepS K H Ω σ δ) : RepS K H (DL.hid Ω i) σ (δ.set i .no) := by
  refine ⟨by rw [List.length_set]; exact R.len, fun j s h => ?_, fun b j q => ?_⟩
  · by_cases hj : i = j
    · subst hj
      have hl : i < δ.length := by
        have := (List.getElem?_eq_some_iff.mp h).1
        rwa [List.length_set] at this
      rw [List.getElem?_set_self hl] at h
      cases h
      trivial
    · rw [List.getElem?_set_ne hj] at h
      have hn : ∀ b, Ω b = none → DL.hid Ω i b = none := fun b q => by rw [hid_neg (by rw [q]; exact fun z => by cases z)]; exact q
      exact (R.sl j s h).mv (fun _ _ => Rep.less hn) (fun _ _ => Reps.less hn) fun b vs q1 q2 => ⟨q2, by rw [hid_neg (by rw [q1]; intro z; exact hj (by have := Option.some.inj z; omega))]; exact q1⟩
  · by_cases z : Ω b = some (i + 2)
    · exact R.trk b _ z
    · rw [hid_neg z] at q; exact R.trk b j q
theorem RepS.unh {i : Nat} (R : RepS K H2 Ω2 σ δ) (e : Ext H (DL.hid Ω i) H2 Ω2) (t : Trk H Ω) : RepS K H2 (DL.unh Ω Ω2 i) σ δ := by
  have h0 : ∀ b, Ω b = some (i + 2) → Ω2 b = some 0 := fun b q => (e.fr b).mp (hid_pos q)
  refine R.relabel (fun b q => ?_) (fun b j q => ?_) (trk_unh e t R.trk)
  · rw [unh_neg]
    · exact q
    · intro z; rw [h0 b z] at q; cases q
  · rw [unh_neg]
    · exact q
    · intro z; rw [h0 b z] at q; cases q
theorem Ext.freeK {i : Nat} : Ext H Ω H (freeK Ω i) where
  keep := fun b o q _ => q
  new := fun b q _ => by unfold DL.freeK; split <;> first | rfl | exact q
  fr := fun b => by
    unfold DL.freeK
    split
    · rename_i z; rw [z]; constructor <;> intro q <;> cases q
    · exact Iff.rfl
  live := fun b q => q
theorem freeK_less {i : Nat} : ∀ b, Ω b = none → freeK Ω i b = none := fun b q => by unfold freeK; split <;> first | rfl | exact q
noncomputable def frzN (i : Nat) (δ : DSt) : DSt := match δ[i]? with
  | some (.nw xss) => δ.set i (.sh (.lst (xss.map .lst)))
  | _ => δ
theorem Nst.reps {K : PySem.W.Frag} {H : Hp} {Ω : Om} {i : Nat} : ∀ {xss : List (List D)} {bs : List Addr}, bs.length = xss.length → Nst K H Ω (i + 2) xss bs → Reps K H (freeK Ω i) (xss.map .lst) (bs.map V.ref)
  | [], [], _, _ => .nil
  | [], _ :: _, h, _ => by cases h
  | _ :: _, [], h, _ => by cases h
  | xs :: xss, b :: bs, h, q => by
    obtain ⟨ws, e1, e2, e3⟩ := q 0 b xs rfl rfl
    refine .cons (show ∃ a vs, _ from ⟨b, ws, rfl, ⟨.inl e1, by unfold freeK; rw [if_pos e2]⟩, e3.less freeK_less⟩) (Nst.reps (Nat.succ.inj h) fun j b' xs' z1 z2 => q (j + 1) b' xs' (by simpa using z1) (by simpa using z2))
theorem RepS.putIn {i j : Nat} {a b : Addr} {bs : List Addr} {xss : List (List D)} {es : List D} {ys : List V} (R : RepS K H Ω σ δ) (hσ : (σ[i]?).join = some (.ref a)) (ha : H a = some (.lst (bs.map V.ref))) (oa : Ω a = some (i + 2)) (nd : (a :: bs).Nodup) (hl : bs.length = xss.length)
    (hn : Nst K H Ω (i + 2) xss bs) (hb : bs[j]? = some b) (r : Reps K H Ω es ys) : RepS K (upd H b (.lst ys)) Ω σ (δ.set i (.nw (xss.set j es))) := by
  have hj : j < xss.length := by rw [← hl]; exact (List.getElem?_eq_some_iff.mp hb).1
  obtain ⟨ws, w1, w2, w3⟩ := hn j b _ hb (List.getElem?_eq_getElem hj)
  have hl' : ∃ vs, H b = some vs ∧ fixO vs = false := ⟨_, w1, rfl⟩
  have ob : Ω b ≠ none := by rw [w2]; exact Option.some_ne_none _
  have nb : (bs : List Addr).Nodup := (List.nodup_cons.mp nd).2
  have ab : a ≠ b := by rintro rfl; exact (List.nodup_cons.mp nd).1 (List.mem_of_getElem? hb)
  refine ⟨by rw [List.length_set]; exact R.len, fun q s h => ?_, fun c k q => ?_⟩
  · by_cases hq : i = q
    · subst hq
      have hl2 : i < δ.length := by
        have := (List.getElem?_eq_some_iff.mp h).1
        rwa [List.length_set] at this
      rw [List.getElem?_set_self hl2] at h
      cases h
      refine ⟨a, bs, hσ, by rw [upd_ne ab]; exact ha, oa, nd, by rw [List.length_set]; exact hl, fun m c ms z1 z2 => ?_⟩
      by_cases hm : j = m
      · subst hm
        rw [hb] at z1
        cases z1
        rw [List.getElem?_set_self hj] at z2
        cases z2
        exact ⟨ys, upd_same, w2, r.put hl' ob⟩
      · rw [List.getElem?_set_ne hm] at z2
        obtain ⟨us, y1, y2, y3⟩ := hn m c ms z1 z2
        have cb : c ≠ b := by
          rintro rfl
          obtain ⟨q1, q2⟩ := List.getElem?_eq_some_iff.mp hb
          obtain ⟨q3, q4⟩ := List.getElem?_eq_some_iff.mp z1
          have pw := List.pairwise_iff_getElem.mp nb
          rcases Nat.lt_trichotomy j m with z | z | z
          · exact pw j m q1 q3 z (q2.trans q4.symm)
          · exact hm z
          · exact pw m j q3 q1 z (q4.trans q2.symm)
        exact ⟨us, by rw [upd_ne cb]; exact y1, y2, y3.put hl' ob⟩
    · rw [List.getElem?_set_ne hq] at h
      refine (R.sl q s h).mv (fun _ _ z => z.put hl' ob) (fun _ _ z => z.put hl' ob) fun c us y1 y2 => ?_
      have cb : c ≠ b := by
        rintro rfl
        rw [w2] at y1
        exact hq (by have := Option.some.inj y1; omega)
      exact ⟨by rw [upd_ne cb]; exact y2, y1⟩
  · by_cases cb : c = b
    · subst cb; exact ⟨_, upd_same, rfl⟩
    · obtain ⟨us, e, f⟩ := R.trk c k q
      exact ⟨us, by rw [upd_ne cb]; exact e, f⟩
end
section
variable {X : Cx} {E : Str → Hp → Prop} {pos : Pos} {e e1 : Expr} {f f1 : DM DV} {mp : List Nat}
end
section
variable {i : Nat} {δ δ1 δ2 : DSt} {fi : DM (List D)} {f1 f2 : DM DV}
end
end DL
namespace L2
open PySem PySem.Spec PyProof.Rows
section
variable {X : Cx}
theorem ints_are : ∀ {ns : List Int} {its : List Value}, Vals (ns.map V.int) its → IntsAre its ns
  | [], _, h => by cases h; exact .nil
  | n :: ns, _, h => by
    cases h with
    | cons r1 r2 => obtain ⟨t, rfl⟩ := r1; exact .cons n t (ints_are r2)
noncomputable def manyOf (ns : List Int) : Nat := (firstMet (fun i => ns.getD i 0) ns.length).length
theorem call_set_ints (hc : X.calm = true) : CallR X (.type "set") (fun xs H Q => ∃ l ns, xs = [.ref l] ∧ SqL X.K H l (ns.map V.int) ∧ ns.length + 1 < scanBound ∧ ∀ p S, H p = none → Q (.ref p) (upd H p (.set S (manyOf ns)))) := by
  intro pins s σ H xs us Q I r h
  obtain ⟨l, ns, rfl, hl, hb, q⟩ := h
  obtain ⟨u, rfl, rx⟩ := vals1 r
  cases rx
  obtain ⟨its, r', pl, hz⟩ := I.list hl
  have hlen := r'.length
  rw [List.length_map] at hlen
  have hsz : its.toArray.size = ns.length := by rw [List.size_toArray, hlen]
  refine call_set_list (I.ok.hd hc) pl.isList (ints_are r') (by rw [hsz]; exact hb) fun h' tk hS hk => ?_
  rw [hsz] at hS
  have hS : ObjOk X.prog X.w (upd H s.heap.objs.size (.set (fun k' => (firstMet (fun i => ns.getD i 0) ns.length).any (· == k')) (manyOf ns))) h' s.heap.objs.size (.set (fun k' => (firstMet (fun i => ns.getD i 0) ns.length).any (· == k')) (manyOf ns)) := hS
  exact ⟨.ref _, _, I.laid (fun b o e => hk b o (Heap.lt_size e) e) (Nat.le_refl _) hS, rfl, q _ _ I.fresh⟩
theorem call_len_set1 : CallR X (.builtin "len") (fun xs H Q => ∃ p S n, xs = [.ref p] ∧ H p = some (.set S n) ∧ Q (.int n) H) := by
  intro pins s σ H xs us Q I r h
  obtain ⟨p, S, n, rfl, hp, q⟩ := h
  obtain ⟨u, rfl, rx⟩ := vals1 r
  cases rx
  have hS : s.heap.SetOf (intKind X.prog X.w) p S n := I.hok p _ hp
  obtain ⟨o, es, ep, t, h1, h2, h3, _, _, h6, h7, rfl⟩ := hS
  exact call_len_set h1 h2 h3 h7 (by unfold scanBound at h6; omega) ⟨.int es.size, H, I.tok _, ⟨_, rfl⟩, q⟩
noncomputable def rIndex : V → List V → Hp → VK → Prop := fun x vs H Q => ∃ z y i rest, x = .str z ∧ vs = [.str y] ∧ Builtin.Str.occurrences z y 0 z.length 1 = i :: rest ∧ Q (.int (i : Nat)) H
theorem mt_index : MtR X "str.index" rIndex := by
  intro pins s σ H x vs v us Q I rx rv h
  obtain ⟨z, y, i, rest, rfl, rfl, ho, q⟩ := h
  obtain ⟨t, rfl⟩ := rx
  obtain ⟨u, rfl, t', rfl⟩ := rv.one
  exact call_gives F.slot_str_index (typeIs_str _ _ _) F.entry_str_index (F.args_str_index_2 _ _) (gives_str_index z y t t' i rest ho) ⟨.int i, H, I.tok _, ⟨_, rfl⟩, q⟩
end
end L2
namespace DL
open PySem PySem.Spec PyProof.Rows L2
section
variable {X : Cx} {E : Str → Hp → Prop} {e : Expr} {f : DM DV} {pos : Pos}
noncomputable def imax (i j : Int) : Int := if j > i then j else i
noncomputable def gMax : List D → Option DV
  | [.int i, .int j] => some (.val (.int (imax i j)))
  | _ => none
theorem cb_max (hc : X.calm = true) : CallD X (.builtin "max") gMax := ⟨_, call_max2 hc, by
  intro E σ H δ Ω vs ds z Q R r hz h
  unfold gMax at hz
  split at hz
  · cases hz
    obtain ⟨v, v', e, rv, rv'⟩ := rBs_two r
    cases (show v = .int _ from rv)
    cases (show v' = .int _ from rv')
    exact ⟨_, _, e, h.now R rfl⟩
  · cases hz⟩
noncomputable def gIndex : D → List D → Option DV
  | .str z, [.str y] => (Builtin.Str.occurrences z y 0 z.length 1).head?.map fun i => .val (.int (i : Nat))
  | _, _ => none
theorem md_index : MtD X "str" "str.index" gIndex := ⟨_, mt_index, by
  intro E σ H δ Ω x vs d ds z Q R r1 r2 hz h
  unfold gIndex at hz
  split at hz
  · rename_i s y
    obtain ⟨i, h1, rfl⟩ := Option.map_eq_some_iff.mp hz
    obtain ⟨v, e, rv⟩ := rBs_one r2
    cases (show v = .str y from rv)
    cases q : Builtin.Str.occurrences s y 0 s.length 1 with
    | nil => rw [q] at h1; cases h1
    | cons j rest =>
      rw [q] at h1
      cases h1
      exact ⟨s, y, _, rest, r1, e, q, h.now R rfl⟩
  · cases hz⟩
noncomputable def gLenSet : D → Option DV
  | .lst ds => (intsOf ds).bind fun ns => if ns.length + 1 < scanBound then some (.val (.int (manyOf ns : Nat))) else none
  | _ => none
noncomputable def fLenSet (f : DM DV) : DM DV := (fN f).bd fun a δ => match res δ a with
  | some d => (match gLenSet d with | some z => .ok z δ | none => .un)
  | none => .un
theorem ped_lenset {x y : Str} {p1 p2 pos2 : Pos} (he : PED X E e f) (hc : X.calm = true) (hm : X.mg x = none) (hv : bootBuiltins x = some (.builtin "len")) (hm2 : X.mg y = none) (hv2 : bootBuiltins y = some (.type "set")) (hg : Gl X x := by rfl) (hg2 : Gl X y := by rfl)
    (hn : x ≠ "__name__" := by decide) (hdb : (x == ("__debug__" : Str)) = false := by decide) (hn2 : y ≠ "__name__" := by decide) (hdb2 : (y == ("__debug__" : Str)) = false := by decide)
    (hs2 : starEach [e] X.env = (false, eval e X.env) :: starEach [] X.env := by rfl) (hs : starEach [.Call (.Name y p2) [e] [] pos2] X.env = (false, eval (.Call (.Name y p2) [e] [] pos2) X.env) :: starEach [] X.env := by rfl)
    (hp2 : (backTo pos2 (starEach [] X.env)).any (·.1) = false := by rfl) (hp : (backTo pos (starEach [] X.env)).any (·.1) = false := by rfl) :
    PED X E (.Call (.Name x p1) [.Call (.Name y p2) [e] [] pos2] [] pos) (fLenSet f) := by
  obtain ⟨t, q, d⟩ := he
  refine ⟨_, pe_callB call_len_set1 hg hm hv (pa_cons (pe_callTy (call_set_ints hc) hg2 hm2 hv2 (pa_cons q pa_nil hs2) hn2 hdb2 hs2 hp2) pa_nil hs) hn hdb hs hp, ?_⟩
  intro σ H δ Ω R Q h
  refine d.use R h fun a v δ1 H1 Ω1 _ s1 R1 r1 h1 => ?_
  cases q1 : res δ1 a with
  | none => rw [q1] at h1; exact h1.elim
  | some dd =>
    rw [q1] at h1
    dsimp only at h1
    cases q2 : gLenSet dd with
    | none => rw [q2] at h1; exact h1.elim
    | some z =>
      rw [q2] at h1
      unfold gLenSet at q2
      split at q2
      · rename_i ds
        obtain ⟨ns, h2, h3⟩ := Option.bind_eq_some_iff.mp q2
        split at h3
        · rename_i hb
          cases h3
          obtain ⟨l, ws, e1, e2, e3⟩ := rB_lst (r1.res R1 q1)
          subst e1
          have hw := ints_vals e3 h2
          subst hw
          refine ⟨l, ns, rfl, .inl e2, hb, fun p S hp => ⟨p, S, _, rfl, upd_same, ?_⟩⟩
          exact h1 _ Ω1 (.alloc hp R1.trk) (R1.alloc hp) _ rfl
        · cases h3
      · cases q2
theorem ev_lenset {δ δ1 : DSt} {a : DV} {d : D} {z : DV} (h : f δ = .ok a δ1) (e : res δ1 (norm a) = some d) (hg : gLenSet d = some z) : fLenSet f δ = .ok z δ1 := by
  unfold fLenSet fN DM.bd DM.ret; simp only [h, e, hg]
end
end DL
namespace DL
open PySem PySem.Spec PyProof.Rows L2
section
variable {K : PySem.W.Frag} {E : Str → Hp → Prop} {H H1 H2 H' : Hp} {Ω Ω1 Ω2 Ω' : Om} {σ : St} {δ : DSt} {mp : List Nat} {S : List Addr}
noncomputable def fSetW (i : Nat) (f : DM DV) : DM Fl := f.bd fun a δ => match a with
  | .own [] => .ok .nx (δ.set i (.nw []))
  | _ => .un
theorem ds_setW {i : Nat} {te : TE} {f : DM DV} (hi : i ∉ mp) (ha : DE K E te f) : DS K E mp (tAsg te (gName i)) (fSetW i f) := by
  intro σ H δ Ω R B h
  refine ha σ H δ Ω R _ (Wg.bd h fun a δ1 H1 Ω1 ex h1 R1 x r1 => ?_)
  cases a with
  | own ds =>
    cases ds with
    | nil =>
      obtain ⟨a, vs, e1, e2, e3, e4⟩ := r1
      subst e1
      cases (show vs = [] from e4)
      have R2 := R1.ownTo (k := i + 1) (k' := 0) e3 fun j _ _ => .inr (by omega)
      exact h1 H1 (DL.ownTo Ω1 a (i + 1 + 1)) (.own (k' := 0) e3) _ (R2.set ⟨a, [], rfl, e2, by unfold DL.ownTo; rw [if_pos rfl], List.nodup_cons.mpr ⟨List.not_mem_nil, List.nodup_nil⟩, rfl, fun j b xs z => by cases z⟩) (set_same hi)
    | cons _ _ => exact h1.elim
  | _ => exact h1.elim
theorem RepS.putS {i : Nat} {p : Addr} {xs : List V} {s : Sl} (R : RepS K H Ω σ δ) (hl : ∃ vs, H p = some vs ∧ fixO vs = false) (hp : Ω p = some (i + 2)) (hs : RepSl K (upd H p (.lst xs)) Ω i s (σ[i]?).join) : RepS K (upd H p (.lst xs)) Ω σ (δ.set i s) := by
  have hp' : Ω p ≠ none := by rw [hp]; exact Option.some_ne_none _
  refine ⟨by rw [List.length_set]; exact R.len, fun j t h => ?_, fun a k q => ?_⟩
  · by_cases hj : i = j
    · subst hj
      have hl' : i < δ.length := by
        have := (List.getElem?_eq_some_iff.mp h).1
        rwa [List.length_set] at this
      rw [List.getElem?_set_self hl'] at h
      cases h
      exact hs
    · rw [List.getElem?_set_ne hj] at h
      refine (R.sl j t h).mv (fun _ _ z => z.put hl hp') (fun _ _ z => z.put hl hp') fun a ws e3 e2 => ?_
      have ha : a ≠ p := by
        rintro rfl
        rw [hp] at e3
        exact hj (by have := Option.some.inj e3; omega)
      exact ⟨by rw [upd_ne ha]; exact e2, e3⟩
  · by_cases ha : a = p
    · subst ha; exact ⟨_, upd_same, rfl⟩
    · obtain ⟨ws, e, f⟩ := R.trk a k q
      exact ⟨ws, by rw [upd_ne ha]; exact e, f⟩
theorem DE.useK {β : Type} {i : Nat} {ta : TE} {f : DM DV} {g : DV → DM β} {P : β → DSt → Hp → Om → Prop} {T : V → Hp → Prop} (ha : DE K E ta f) (R : RepS K H Ω σ δ) (h : Wg E H Ω P (f.bd g (δ.set i .no)))
    (k : ∀ a x δ' H' Ω', Ext H (hid Ω i) H' Ω' → RepS K H' Ω' σ δ' → RepDV K H' Ω' σ a x → Wg E H' (unh Ω Ω' i) P (g a δ') → T x H') : ta σ H T := by
  refine ha σ H _ (hid Ω i) R.hid T ?_
  unfold DM.bd at h
  cases e : f (δ.set i .no) with
  | un => rw [e] at h; exact h
  | er c => rw [e] at h; exact fun H2 Ω2 e2 t2 => h H2 (unh Ω Ω2 i) e2.unh (trk_unh e2 R.trk t2)
  | ok a δ' => rw [e] at h; exact fun H2 Ω2 e2 R2 v rv => k a v δ' H2 Ω2 e2 R2 rv (Wg.ext h e2.unh)
noncomputable def fAppW (i : Nat) (f : DM DV) : DM Fl := fun δ => match δ[i]? with
  | some (.nw xss) => (f.bd fun b δ' => match b with
    | .own ds => if xss.length < sizeLine then .ok .nx (δ'.set i (.nw (xss ++ [ds]))) else .un
    | _ => .un) (δ.set i .no)
  | _ => .un
theorem Ext.labK {k : Nat} (hs : ∀ b ∈ S, ∃ j, Ω b = some (j + 1)) : Ext H Ω H (lab Ω S (k + 1)) where
  keep := fun b o q _ => q
  new := fun b q h => by
    by_cases z : b ∈ S
    · obtain ⟨j, z⟩ := hs b z; rw [z] at q; cases q
    · rw [lab_neg z]; exact q
  fr := fun b => by
    by_cases z : b ∈ S
    · obtain ⟨j, w⟩ := hs b z; rw [lab_pos z, w]; constructor <;> intro q <;> cases q
    · rw [lab_neg z]
  live := fun b q => q
theorem trk_lab {k : Nat} (t : Trk H Ω) (hs : ∀ b ∈ S, ∃ j, Ω b = some (j + 1)) : Trk H (lab Ω S k) := fun b j q => by
  by_cases z : b ∈ S
  · obtain ⟨j, w⟩ := hs b z; exact t b _ w
  · rw [lab_neg z] at q; exact t b j q
noncomputable def NwAt (K : PySem.W.Frag) (H : Hp) (Ω : Om) (k : Nat) (a : Addr) (bs : List Addr) (xss : List (List D)) : Prop := H a = some (.lst (bs.map V.ref)) ∧ Ω a = some k ∧ (a :: bs).Nodup ∧ bs.length = xss.length ∧ Nst K H Ω k xss bs
theorem NwAt.own {k : Nat} {a : Addr} {bs : List Addr} {xss : List (List D)} (h : NwAt K H Ω k a bs xss) : ∀ b ∈ a :: bs, Ω b = some k := fun b hb => by
  obtain ⟨h1, h2, h3, h4, h5⟩ := h
  rcases List.mem_cons.mp hb with rfl | hb
  · exact h2
  · obtain ⟨j, hj, e⟩ := List.mem_iff_getElem.mp hb
    obtain ⟨ws, _, q, _⟩ := h5 j b (xss[j]'(by omega)) (by rw [List.getElem?_eq_getElem hj, e]) (List.getElem?_eq_getElem (by omega))
    exact q
theorem NwAt.to {k m : Nat} {a : Addr} {bs : List Addr} {xss : List (List D)} (h : NwAt K H Ω (k + 1) a bs xss) : NwAt K H (lab Ω (a :: bs) (m + 1)) (m + 1) a bs xss := by
  have ho := h.own
  obtain ⟨h1, h2, h3, h4, h5⟩ := h
  refine ⟨h1, lab_pos List.mem_cons_self, h3, h4, fun j b xs z1 z2 => ?_⟩
  obtain ⟨ws, w1, w2, w3⟩ := h5 j b xs z1 z2
  exact ⟨ws, w1, lab_pos (List.mem_cons_of_mem _ (List.mem_of_getElem? z1)), w3.ext (.labK fun b hb => ⟨k, ho b hb⟩)⟩
noncomputable abbrev brk (i : Nat) (B : Ends) : Ends := { B with bk := fun σ' H' => ∀ v, σ'[i]? = some (some v) → B.rt v H' }
noncomputable def DSr (i : Nat) (K : PySem.W.Frag) (E : Str → Hp → Prop) (mp : List Nat) (ts : TS) (f : DM Fl) : Prop := ∀ σ H δ Ω, RepS K H Ω σ δ → ∀ B, Wg E H Ω (PF K mp σ (brk i B)) (f δ) → ts B σ H
noncomputable def fSeqR (f g : DM Fl) : DM Fl := fun δ => match f δ with
  | .ok .nx δ' => g δ'
  | .er c => .er c
  | _ => .un
theorem ds_seqR {i : Nat} {t u : TS} {f g : DM Fl} (hf : DS K E mp t f) (hg : DSr i K E mp u g) : DSr i K E mp (tSeq t u) (fSeqR f g) := by
  intro σ H δ Ω R B h
  refine hf σ H δ Ω R _ ?_
  unfold fSeqR at h
  cases e : f δ with
  | un => rw [e] at h; exact h
  | er c => rw [e] at h; exact h
  | ok a δ' =>
    rw [e] at h
    cases a with
    | nx => exact fun H' Ω' ex σ' R' m' => hg σ' H' δ' Ω' R' B ((Wg.ext h ex).same m')
    | _ => exact h.elim
noncomputable def fRetW (i : Nat) : DM Fl := fun δ => match δ[i]? with
  | some (.nw _) => .ok .bk δ
  | _ => .un
theorem ds_retW {i : Nat} : DSr i K E mp (tRet (tVar i)) (fRetW i) := by
  intro σ H δ Ω R B h
  unfold fRetW at h
  split at h
  · rename_i xss hd
    obtain ⟨a, bs, e1, _⟩ := R.sl i _ hd
    exact ⟨.ref a, join_some e1, h H Ω .refl σ R (fun _ _ => rfl) _ (join_some e1)⟩
  · exact h.elim
noncomputable def spL (K : PySem.W.Frag) (n : Nat) (M : List D → Option (List (List D))) : Sp := fun vs H Q _ => vs.length = n ∧ ∃ Ω ds, Trk H Ω ∧ (∀ b k, Ω b = some k → k = 0) ∧ Reps K H Ω ds vs ∧ ∃ xss, M ds = some xss ∧ ∀ H' Ω', Ext H Ω H' Ω' → Trk H' Ω' → ∀ a bs, NwAt K H' Ω' 1 a bs xss → Q (.ref a) H'
noncomputable def runL (body : DM Fl) (i n : Nat) (ds : List D) : Option (List (List D)) := match body (ds.map .sh ++ List.replicate (n - ds.length) .no) with
  | .ok .bk δ' => (match δ'[i]? with | some (.nw xss) => some xss | _ => none)
  | _ => none
noncomputable def fCallL (i n : Nat) (fa : DM (List DV)) (M : List D → Option (List (List D))) : DM Fl := fa.bd fun as δ => match valsOf as with
  | none => .un
  | some ds => if ds.length = n then (match M ds with
    | none => .un
    | some xss => .ok .nx (δ.set i (.nw xss))) else .un
theorem ds_callL {i n : Nat} {M : List D → Option (List (List D))} {Ex : XK} {t : TA} {fa : DM (List DV)} (hi : i ∉ mp) (ha : DA K E t fa) : DS K E mp (tAsg (tCall (spL K n M) [] Ex t) (gName i)) (fCallL i n fa M) := by
  intro σ H δ Ω R B h
  refine ha.use R h fun as vs δ1 H1 Ω1 _ s1 R1 r1 h1 => ?_
  (try dsimp only at h1)
  cases q1 : valsOf as with
  | none => rw [q1] at h1; exact h1.elim
  | some ds =>
    rw [q1] at h1
    dsimp only at h1
    split at h1
    · rename_i hn
      have r := r1.vals q1
      show spL K n M (vs ++ []) H1 _ Ex
      rw [List.append_nil]
      refine ⟨by rw [← r.length]; exact hn, under Ω1, ds, trk_under R1.trk, under_zero, r.less fun b q => under_none q, ?_⟩
      cases q3 : M ds with
      | none => rw [q3] at h1; exact h1.elim
      | some xss =>
        rw [q3] at h1
        refine ⟨xss, rfl, fun H' Ω' e' t' a bs hN => ?_⟩
        have ho := hN.own
        have R2 := R1.back e' t'
        have hN2 : NwAt K H' (back Ω1 Ω') 1 a bs xss := by
          obtain ⟨h1, h2, h3, h4, h5⟩ := hN
          refine ⟨h1, back_one h2, h3, h4, fun j b xs z1 z2 => ?_⟩
          obtain ⟨ws, w1, w2, w3⟩ := h5 j b xs z1 z2
          exact ⟨ws, w1, back_one w2, w3.less back_none⟩
        have hs : ∀ b ∈ a :: bs, ∃ j, back Ω1 Ω' b = some (j + 1) := fun b hb => ⟨0, hN2.own b hb⟩
        have R3 : RepS K H' (lab (back Ω1 Ω') (a :: bs) (i + 1 + 1)) σ δ1 := R2.relabel (fun b q => by
            rw [lab_neg]
            · exact q
            · intro z; obtain ⟨j, z⟩ := hs b z; rw [z] at q; cases q) (fun b k q => by
            rw [lab_neg]
            · exact q
            · intro z; rw [hN2.own b z] at q; cases q) (trk_lab R2.trk hs)
        obtain ⟨n1, n2, n3, n4, n5⟩ := hN2.to (m := i + 1)
        exact h1 H' _ (e'.back.trans (.labK hs)) _ (R3.set ⟨a, bs, rfl, n1, n2, n3, n4, n5⟩) (set_same hi)
    · exact h1.elim
noncomputable def atomD : D → Bool
  | .non => true
  | .bl _ => true
  | .int _ => true
  | .str _ => true
  | _ => false
noncomputable def flatD : D → Bool
  | .tup xs => xs.all atomD
  | .non => true
  | .bl _ => true
  | .int _ => true
  | .str _ => true
  | _ => false
theorem Rep.atom {d : D} {v : V} (h : Rep K H Ω d v) (q : atomD d = true) : Rep K H Ω' d v := by
  cases d <;> first | exact h | cases q
theorem Reps.atom : ∀ {ds : List D} {vs : List V}, Reps K H Ω ds vs → ds.all atomD = true → Reps K H Ω' ds vs
  | [], _, h, _ => h
  | _ :: _, _, h, q => by
    obtain ⟨v, r, e1, e2, e3⟩ := (show ∃ v r, _ from h)
    rw [List.all_cons, Bool.and_eq_true] at q
    exact ⟨v, r, e1, e2.atom q.1, Reps.atom e3 q.2⟩
theorem Rep.flat {d : D} {v : V} (h : Rep K H Ω d v) (q : flatD d = true) : Rep K H Ω' d v := by
  cases d with
  | tup ds =>
    obtain ⟨a, vs, e1, e2, e3⟩ := (show ∃ a vs, _ from h)
    exact (show ∃ a vs, _ from ⟨a, vs, e1, e2, e3.atom q⟩)
  | _ => first | exact h | cases q
theorem Reps.flat : ∀ {ds : List D} {vs : List V}, Reps K H Ω ds vs → ds.all flatD = true → Reps K H Ω' ds vs
  | [], _, h, _ => h
  | _ :: _, _, h, q => by
    obtain ⟨v, r, e1, e2, e3⟩ := (show ∃ v r, _ from h)
    rw [List.all_cons, Bool.and_eq_true] at q
    exact ⟨v, r, e1, e2.flat q.1, Reps.flat e3 q.2⟩
noncomputable def flatS : Sl → Sl
  | .sh d => if flatD d = true then .sh d else .no
  | .ow ds => if ds.all flatD = true then .ow ds else .no
  | _ => .no
noncomputable def thaw1 (mq : List Nat) (δ : DSt) (j : Nat) (s : Sl) : Sl := if j ∈ mq then (match δ[j]? with | some (.sh d) => .sh d | _ => flatS s) else flatS s
noncomputable def thawL (mq : List Nat) (δ : DSt) : Nat → DSt → DSt
  | _, [] => []
  | j, s :: r => thaw1 mq δ j s :: thawL mq δ (j + 1) r
theorem thawL_len {mq : List Nat} : ∀ (l : DSt) (n : Nat), (thawL mq δ n l).length = l.length
  | [], _ => rfl
  | _ :: r, n => congrArg (· + 1) (thawL_len r (n + 1))
theorem thawL_get {mq : List Nat} : ∀ (l : DSt) (n j : Nat), (thawL mq δ n l)[j]? = (l[j]?).map (thaw1 mq δ (n + j))
  | [], _, _ => rfl
  | _ :: _, _, 0 => rfl
  | _ :: r, n, j + 1 => by
    show (thawL mq δ (n + 1) r)[j]? = (r[j]?).map _
    rw [thawL_get r (n + 1) j, Nat.add_right_comm]; rfl
noncomputable def fLendN (i : Nat) (mq : List Nat) (f : DM Fl) : DM Fl := fun δ => match δ[i]? with
  | some (.nw xss) => (match f (δ.set i (.sh (.lst (xss.map .lst)))) with
    | .ok .nx δ' => .ok .nx ((thawL mq δ 0 δ').set i (.nw xss))
    | .ok (.rt d) δ' => if flatD d = true then .ok (.rt d) ((thawL mq δ 0 δ').set i (.nw xss)) else .un
    | .er c => .er c
    | _ => .un)
  | _ => .un
theorem freeK_none {i : Nat} {b : Addr} (h : Ω b = some (i + 2)) : freeK Ω i b = none := by unfold freeK; rw [if_pos h]
theorem freeK_neg {i : Nat} {b : Addr} (h : Ω b ≠ some (i + 2)) : freeK Ω i b = Ω b := by unfold freeK; rw [if_neg h]
theorem Ext.unf {i : Nat} (e : Ext H (DL.freeK Ω i) H2 Ω2) : Ext H Ω H2 (DL.unh Ω Ω2 i) where
  keep := fun b o q h => e.keep b o q (h.imp_right fun z => z.imp (fun z => freeK_less b z) fun z => by rw [freeK_neg (by rw [z]; intro y; cases y)]; exact z)
  new := fun b q h => by
    rw [unh_neg (by rw [q]; intro y; cases y)]
    exact e.new b (freeK_less b q) h
  fr := fun b => by
    by_cases z : Ω b = some (i + 2)
    · rw [unh_pos z, z]
    · rw [unh_neg z, ← freeK_neg z]; exact e.fr b
  live := e.live
theorem trk_unf {i : Nat} (e : Ext H (freeK Ω i) H2 Ω2) (t : Trk H Ω) (t2 : Trk H2 Ω2) : Trk H2 (unh Ω Ω2 i) := fun b j q => by
  by_cases z : Ω b = some (i + 2)
  · obtain ⟨vs, w, f⟩ := t b _ z
    exact ⟨vs, e.keep b _ w (.inr (.inl (freeK_none z))), f⟩
  · rw [unh_neg z] at q; exact t2 b j q
theorem RepS.frzN {i : Nat} {xss : List (List D)} (R : RepS K H Ω σ δ) (hd : δ[i]? = some (.nw xss)) : RepS K H (freeK Ω i) σ (δ.set i (.sh (.lst (xss.map .lst)))) := by
  obtain ⟨a, bs, e1, e2, e3, e4, e5, e6⟩ := R.sl i _ hd
  have hl : i < δ.length := (List.getElem?_eq_some_iff.mp hd).1
  refine ⟨by rw [List.length_set]; exact R.len, fun j s q => ?_, fun b k q => ?_⟩
  · by_cases hj : i = j
    · subst hj
      rw [List.getElem?_set_self hl] at q
      cases q
      exact ⟨.ref a, e1, (show ∃ a vs, _ from ⟨a, _, rfl, ⟨.inl e2, freeK_none e3⟩, Nst.reps e5 e6⟩)⟩
    · rw [List.getElem?_set_ne hj] at q
      refine (R.sl j s q).ext .freeK fun b ws q1 q2 => ⟨q2, ?_⟩
      rw [freeK_neg]
      · exact q1
      · intro z
        rw [z] at q1
        exact hj (by have := Option.some.inj q1; omega)
  · unfold freeK at q
    split at q
    · cases q
    · exact R.trk b k q
theorem RepS.thaw {i : Nat} {xss : List (List D)} {mq : List Nat} {σ' : St} {δ' : DSt} (R : RepS K H Ω σ δ) (hd : δ[i]? = some (.nw xss)) (e : Ext H (DL.freeK Ω i) H' Ω') (R' : RepS K H' Ω' σ' δ') (hm : ∀ j ∈ mq, σ'[j]? = σ[j]?) (hi : i ∈ mq) :
    RepS K H' (DL.unh Ω Ω' i) σ' ((thawL mq δ 0 δ').set i (.nw xss)) := by
  have ex := e.unf
  have fl : ∀ j s, RepSl K H' Ω' j s (σ'[j]?).join → RepSl K H' (DL.unh Ω Ω' i) j (flatS s) (σ'[j]?).join := fun j s h => by
    cases s with
    | sh d =>
      unfold flatS
      dsimp only
      split
      · rename_i q
        obtain ⟨v, e1, e2⟩ := h
        exact ⟨v, e1, e2.flat q⟩
      · trivial
    | ow ds =>
      unfold flatS
      dsimp only
      split
      · rename_i q
        obtain ⟨p, vs, e1, e2, e3, e4⟩ := h
        refine ⟨p, vs, e1, e2, ?_, e4.flat q⟩
        rw [unh_neg]
        · exact e3
        · intro z
          obtain ⟨u, hu, _⟩ := R.trk p _ z
          rw [e.new p (freeK_none z) (by rw [hu]; exact Option.some_ne_none _)] at e3
          cases e3
      · trivial
    | _ => trivial
  refine ⟨by rw [List.length_set, thawL_len]; exact R'.len, fun j s h => ?_, trk_unf e R.trk R'.trk⟩
  by_cases hj : i = j
  · subst hj
    have hl : i < (thawL mq δ 0 δ').length := by
      have := (List.getElem?_eq_some_iff.mp h).1
      rwa [List.length_set] at this
    rw [List.getElem?_set_self hl] at h
    cases h
    obtain ⟨a, bs, e1, e2, e3, e4, e5, e6⟩ := R.sl i _ hd
    refine ⟨a, bs, by rw [hm i hi]; exact e1, e.keep a _ e2 (.inr (.inl (freeK_none e3))), unh_pos e3, e4, e5, fun k b xs z1 z2 => ?_⟩
    obtain ⟨ws, w1, w2, w3⟩ := e6 k b xs z1 z2
    exact ⟨ws, e.keep b _ w1 (.inr (.inl (freeK_none w2))), unh_pos w2, w3.ext ex⟩
  · rw [List.getElem?_set_ne hj, thawL_get, Nat.zero_add] at h
    obtain ⟨s', h1, rfl⟩ := Option.map_eq_some_iff.mp h
    have r := R'.sl j s' h1
    unfold thaw1
    split
    · rename_i hq
      split
      · rename_i d hd'
        obtain ⟨v, e1, e2⟩ := R.sl j _ hd'
        exact ⟨v, by rw [hm j hq]; exact e1, e2.ext ex⟩
      · exact fl j s' r
    · exact fl j s' r
theorem ds_lendN {i : Nat} {mq : List Nat} {ts : TS} {f : DM Fl} (hm : ∀ j ∈ mp, j ∈ mq) (hi : i ∈ mq) (hf : DS K E mq ts f) : DS K E mp ts (fLendN i mq f) := by
  intro σ H δ Ω R B h
  unfold fLendN at h
  split at h
  · rename_i xss hd
    refine hf σ H _ _ (R.frzN hd) B ?_
    cases q : f (δ.set i (.sh (.lst (xss.map .lst)))) with
    | un => rw [q] at h; exact h
    | er c => rw [q] at h; exact fun H' Ω' ex t' => h H' _ ex.unf (trk_unf ex R.trk t')
    | ok fl δ' =>
      rw [q] at h
      cases fl with
      | nx => exact fun H' Ω' ex σ' R' m' => h H' _ ex.unf σ' (R.thaw hd ex R' m' hi) fun j hj => m' j (hm j hj)
      | rt d =>
        dsimp only at h
        split at h
        · rename_i hfl
          exact fun H' Ω' ex σ' R' m' v rv => h H' _ ex.unf σ' (R.thaw hd ex R' m' hi) (fun j hj => m' j (hm j hj)) v (rv.flat hfl)
        · exact h.elim
      | _ => exact h.elim
  · exact h.elim
noncomputable def spoil (d : D) (t : Nat) (xss : List (List D)) : List (List D) := (xss.take t).map (· ++ [d]) ++ xss.drop t
theorem spoil_len {d : D} {t : Nat} {xss : List (List D)} : (spoil d t xss).length = xss.length := by
  unfold spoil; rw [List.length_append, List.length_map, List.length_take, List.length_drop]; omega
theorem spoil_get {d : D} {t : Nat} {xss : List (List D)} {xs : List D} (h : xss[t]? = some xs) : (spoil d t xss)[t]? = some xs := by
  have ht := (List.getElem?_eq_some_iff.mp h).1
  have hl : ((xss.take t).map (· ++ [d])).length = t := by rw [List.length_map, List.length_take]; omega
  unfold spoil
  rw [List.getElem?_append_right (by omega), hl, Nat.sub_self, drop_cons h]; rfl
theorem spoil_set {d : D} {t : Nat} {xss : List (List D)} {xs : List D} (h : xss[t]? = some xs) : (spoil d t xss).set t (xs ++ [d]) = spoil d (t + 1) xss := by
  have ht := (List.getElem?_eq_some_iff.mp h).1
  have hl : ((xss.take t).map (· ++ [d])).length = t := by rw [List.length_map, List.length_take]; omega
  unfold spoil
  rw [List.set_append_right _ _ (by omega), hl, Nat.sub_self, drop_cons h, List.set_cons_zero, List.take_add_one, h]
  simp
noncomputable def fSpoil (i j : Nat) (d : D) : DM Fl := fun δ => match δ[i]? with
  | some (.nw xss) => if i ≠ j ∧ j < δ.length ∧ (∀ xs ∈ xss, xs.length < sizeLine) then .ok .nx ((δ.set j .no).set i (.nw (spoil d xss.length xss))) else .un
  | _ => .un
noncomputable def fSpoilA (i : Nat) : DM Fl := fun δ => match δ[i]? with
  | some (.nw xss) => if xss.length < sizeLine then .ok .nx (δ.set i .no) else .un
  | _ => .un
end
noncomputable def PSrD (i : Nat) (X : Cx) (E : Str → Hp → Prop) (mp : List Nat) (sts : List Stmt) (f : DM Fl) : Prop := ∃ ts, PSs X sts ts ∧ DSr i X.K E mp ts f
section
variable {P : Program} {w : World} {K : PySem.W.Frag} {mg : Str → Option Value} {base : Heap} {H : Hp} {Ω : Om}
theorem fnL (i : Nat) {x qual : Str} {st : Stmt} {f : Addr} {fd : FuncData} {N ps : List Str} {k : Nat} {body : DM Fl} (F : Fun K x qual st f fd) (S : FnScope N ps (defScope st))
    (hb : ∀ (cdv : Value) (A : Around) (outer : List Env) (s : Shared) (H : Hp) (E : XK), Room k (A.deeper (envOfC qual (defScope st) s.heap.objs.size f cdv)) →
      PSrD i (cxOf CX0 P w K mg base N qual (defScope st) f cdv A outer s H E).nox EN [] (defBody st) body) : FnOk P w K mg base CX0 (k + 1) f fd ps (spL K ps.length (runL body i N.length)) := by
  refine F.ok S (fun vs H Q E h => h.1) (fun cdv A outer s H vs Q E hr h => ?_)
  obtain ⟨ts, p, d⟩ := hb cdv A outer s H E hr
  refine ⟨ts, p, ?_⟩
  obtain ⟨hl, Ω, ds, ht, h0, hr, xss, hq, h⟩ := h
  refine d (L2.start N vs) H _ Ω (RepS.start hr ht) _ ?_
  unfold runL at hq
  cases e : body (ds.map .sh ++ List.replicate (N.length - ds.length) .no) with
  | un => rw [e] at hq; cases hq
  | er c => rw [e] at hq; cases hq
  | ok fl δ' =>
    rw [e] at hq
    cases fl with
    | bk =>
      dsimp only at hq
      split at hq
      · rename_i yss hd
        cases hq
        intro H' Ω' ex σ' R' _ v hv
        obtain ⟨a, bs, e1, e2⟩ := R'.sl i _ hd
        rw [hv] at e1
        cases e1
        have hN : NwAt K H' Ω' (i + 1 + 1) a bs xss := e2
        have hs : ∀ b ∈ a :: bs, ∃ j, Ω' b = some (j + 1) := fun b hb => ⟨_, hN.own b hb⟩
        exact h H' _ (ex.trans (.labK (k := 0) hs)) (trk_lab R'.trk hs) a bs (hN.to (m := 0))
      · cases hq
    | _ => cases hq
end
section
variable {X : Cx} {E : Str → Hp → Prop} {pos : Pos} {a b c e : Expr} {f g : DM DV} {mp : List Nat}
theorem psr_cons {i : Nat} {st : Stmt} {rest : List Stmt} {f1 f2 : DM Fl} (h1 : PSD X E mp st f1) (h2 : PSrD i X E mp rest f2) : PSrD i X E mp (st :: rest) (fSeqR f1 f2) := by
  obtain ⟨t, p, d⟩ := h1; obtain ⟨u, q, r⟩ := h2; exact ⟨_, pss_cons p q, ds_seqR d r⟩
theorem psr_ret (i : Nat) {x : Str} {p : Pos} (hN : X.N[i]? = some x := by rfl) (hv : Vis X.env.scope x := by first | exact Or.inl rfl | exact Or.inr (Or.inl rfl) | exact Or.inr (Or.inr rfl)) (hd : (x == ("__debug__" : Str)) = false := by decide)
    (hcd : (x == ("__classdict__" : Str)) = false := by decide) : PSrD i X E mp [.Return (some (.Name x p)) pos] (fRetW i) := ⟨_, pss_one (ps_ret (pv i hN hv hd hcd)), ds_retW⟩
theorem psd_setW (i : Nat) {x : Str} {pos' : Pos} (hN : X.N.Nodup) (he : PED X E e f) (hi : X.N[i]? = some x := by rfl) (hx : Loc X.env.scope x := by first | exact Or.inl rfl | exact Or.inr rfl) (hm : i ∉ mp := by decide)
    (hs : swapsWith e (some (.Name x pos')) pos.line X.env = pure false := by rfl) (hf : X.fn x = true ∨ X.env.scope.names.lookup x = some .local := by first | exact .inl rfl | exact .inr rfl) : PSD X E mp (.Assign [.Name x pos'] e pos) (fSetW i f) := by
  obtain ⟨t, p, d⟩ := he; exact ⟨_, ps_set hN hi hx p hs hf, ds_setW hm d⟩
theorem psd_lendN (i : Nat) (mq : List Nat) {st : Stmt} {f1 : DM Fl} (h1 : PSD X E mq st f1) (hm : ∀ j ∈ mp, j ∈ mq := by decide) (hi : i ∈ mq := by decide) : PSD X E mp st (fLendN i mq f1) := by
  obtain ⟨t, p, d⟩ := h1; exact ⟨_, p, ds_lendN hm hi d⟩
structure DefL (P : Program) (w : World) (K : PySem.W.Frag) (mg : Str → Option Value) (base : Heap) (k : Nat) (x : Str) (n : Nat) (M : List D → Option (List (List D))) : Prop where
  ex : ∃ (f : Addr) (fd : FuncData) (ps : List Str), FnOk P w K mg base CX0 k f fd ps (spL K n M) ∧ mg x = some (.ref f) ∧ PySem.W.keepIn K (.ref f) = true ∧ Binds K fd ps []
theorem psd_callL (i : Nat) {k n : Nat} {x y : Str} {M : List D → Option (List (List D))} {p p' pos2 : Pos} {es : List Expr} {r : DM (List DV)} (hN : X.N.Nodup) (F : DefL X.prog X.w X.K X.mg X.base k x n M) (hr : Room k X.A) (ha : PAD X EN (e :: es) r) (hg : Gl X x := by rfl)
    (hdb : (x == ("__debug__" : Str)) = false := by decide) (he : starEach (e :: es) X.env = (false, eval e X.env) :: starEach es X.env := by rfl) (hpl : (backTo pos (starEach es X.env)).any (·.1) = false := by rfl)
    (hi : X.N[i]? = some y := by rfl) (hx : Loc X.env.scope y := by first | exact Or.inl rfl | exact Or.inr rfl) (hm : i ∉ mp := by decide)
    (hs : swapsWith (.Call (.Name x p) (e :: es) [] pos) (some (.Name y p')) pos2.line X.env = pure false := by rfl) (hf : X.fn y = true ∨ X.env.scope.names.lookup y = some .local := by first | exact .inl rfl | exact .inr rfl) :
    PSD X EN mp (.Assign [.Name y p'] (.Call (.Name x p) (e :: es) [] pos) pos2) (fCallL i n r M) := by
  obtain ⟨fa, fd, ps, F, hm', kp, b⟩ := F.ex
  obtain ⟨t, q, d⟩ := ha
  exact ⟨_, ps_set hN hi hx (pe_call F hr hg hm' kp b .nil pass0 q hdb he hpl) hs hf, ds_callL hm d⟩
theorem psd_appW (i : Nat) {x : Str} {p apos cpos : Pos} (he : PED X E e f) (hN : X.N[i]? = some x := by rfl) (hv : Vis X.env.scope x := by first | exact Or.inl rfl | exact Or.inr (Or.inl rfl) | exact Or.inr (Or.inr rfl))
    (hd : (x == ("__debug__" : Str)) = false := by decide) (hcd : (x == ("__classdict__" : Str)) = false := by decide)
    (hbase : attributeBase (.Name x p) "append" X.env (eval (.Name x p) X.env) = eval (.Name x p) X.env := by rfl)
    (hfew : ((backTo cpos (starEach [e] X.env)).all (fun x => !x.1) && (backToKw cpos (keywordEach [] X.env)).all (fun x => x.1.isSome)
      && decide (([e] : List Expr).length + ([] : List Keyword).length + (if ([] : List Keyword).isEmpty then 0 else 1) < 30)) = true := by rfl)
    (hline : (apos.endLine == cpos.line) = true := by rfl) (hs : starEach [e] X.env = (false, eval e X.env) :: starEach [] X.env := by rfl)
    (hsw : swapsWith (.Call (.Attribute (.Name x p) "append" apos) [e] [] cpos) none pos.line X.env = pure false := by rfl) :
    PSD X E mp (.Expr (.Call (.Attribute (.Name x p) "append" apos) [e] [] cpos) pos) (fAppW i f) := by
  obtain ⟨t, q, d⟩ := he
  refine ⟨_, ps_expr (pe_bm PySem.F.plainAttrs_list PySem.F.slot_list_append PySem.F.type_list_append mt_append (pv i hN hv hd hcd) (pa_cons q pa_nil hs) hbase hfew hline hs rfl) hsw, ?_⟩
  intro σ H δ Ω R B h
  unfold fAppW at h
  split at h
  · rename_i xss hds
    obtain ⟨a, bs, b1, b2, b3, b4, b5, b6⟩ := R.sl i _ hds
    refine ⟨.ref a, join_some b1, .inl ⟨rfl, _, SqL.of b2⟩, d.useK (i := i) R h fun a1 y δ1 H1 Ω1 ex R1 r1 h1 => ?_⟩
    cases a1 with
    | own ds =>
      dsimp only at h1
      split at h1
      · rename_i hz
        obtain ⟨p, vs, e1, e2, e3, e4⟩ := r1
        subst e1
        have ka : ∀ c us, Ω c = some (i + 2) → H c = some (.lst us) → H1 c = some (.lst us) := fun c us z1 z2 => ex.keep c _ z2 (.inr (.inr (hid_pos z1)))
        have np : Ω p ≠ some (i + 2) := fun z => by rw [(ex.fr p).mp (hid_pos z)] at e3; cases e3
        have o3 : unh Ω Ω1 i p = some (0 + 1) := by rw [unh_neg np]; exact e3
        have exu : Ext H Ω H1 (unh Ω Ω1 i) := ex.unh
        have exo : Ext H1 (unh Ω Ω1 i) H1 (DL.ownTo (unh Ω Ω1 i) p (i + 1 + 1)) := .own (k' := 0) o3
        have R4 := (R1.unh ex R.trk).ownTo (k := i + 1) (k' := 0) o3 fun j _ _ => .inr (by omega)
        have own : ∀ c, Ω c = some (i + 2) → DL.ownTo (unh Ω Ω1 i) p (i + 1 + 1) c = some (i + 2) := fun c z => by
          unfold DL.ownTo
          split
          · rfl
          · exact unh_pos z
        have pb : p ∉ a :: bs := fun z => np ((show NwAt X.K H Ω (i + 2) a bs xss from ⟨b2, b3, b4, b5, b6⟩).own p z)
        have hup : upd H1 a (.lst ((bs ++ [p]).map V.ref)) a = some (.lst ((bs ++ [p]).map V.ref)) := upd_same
        refine ⟨a, bs.map V.ref, .ref p, rfl, rfl, ka a _ b3 b2, by rw [List.length_map, b5]; exact hz, ?_⟩
        rw [show bs.map V.ref ++ [V.ref p] = (bs ++ [p]).map V.ref from by rw [List.map_append]; rfl]
        have oa : DL.ownTo (unh Ω Ω1 i) p (i + 1 + 1) a ≠ none := by rw [own a b3]; exact Option.some_ne_none _
        refine h1 _ _ (exo.trans (.putOw (k := i + 1) ⟨_, ka a _ b3 b2, rfl⟩ (own a b3))) σ (R4.putS ⟨_, ka a _ b3 b2, rfl⟩ (own a b3) ⟨a, bs ++ [p], b1, hup, own a b3, ?_, ?_, fun j c xs z1 z2 => ?_⟩) fun _ _ => rfl
        · rw [← List.cons_append]
          exact List.nodup_append.mpr ⟨b4, List.nodup_cons.mpr ⟨List.not_mem_nil, List.nodup_nil⟩, fun x hx y hy z => pb (by rw [← List.mem_singleton.mp hy, ← z]; exact hx)⟩
        · rw [List.length_append, List.length_append, b5]; rfl
        · by_cases hj : j < bs.length
          · rw [List.getElem?_append_left hj] at z1
            rw [List.getElem?_append_left (by omega)] at z2
            obtain ⟨ws, w1, w2, w3⟩ := b6 j c xs z1 z2
            have ca : c ≠ a := by
              rintro rfl
              exact (List.nodup_cons.mp b4).1 (List.mem_of_getElem? z1)
            exact ⟨ws, by rw [upd_ne ca]; exact ka c _ w2 w1, own c w2, ((w3.ext exu).ext exo).put ⟨_, ka a _ b3 b2, rfl⟩ oa⟩
          · have hj2 : j = bs.length := by
              have := (List.getElem?_eq_some_iff.mp z1).1
              rw [List.length_append] at this
              have h1 : [p].length = 1 := rfl
              omega
            subst hj2
            rw [List.getElem?_append_right (Nat.le_refl _), Nat.sub_self] at z1
            rw [List.getElem?_append_right (by omega), b5, Nat.sub_self] at z2
            cases z1
            cases z2
            have ca : p ≠ a := fun z => pb (by rw [z]; exact List.mem_cons_self)
            exact ⟨vs, by rw [upd_ne ca]; exact e2, by unfold DL.ownTo; rw [if_pos rfl], ((e4.less fun c q => by
              rw [unh_neg]
              · exact q
              · intro y; rw [(ex.fr c).mp (hid_pos y)] at q; cases q).ext exo).put ⟨_, ka a _ b3 b2, rfl⟩ oa⟩
      · exact h1.elim
    | _ => exact h1.elim
  · exact h.elim
theorem psd_spoilA (i : Nat) {x tx : Str} {kk : Nat} {p cp apos cpos : Pos} (hN : X.N[i]? = some x := by rfl) (hv : Vis X.env.scope x := by first | exact Or.inl rfl | exact Or.inr (Or.inl rfl) | exact Or.inr (Or.inr rfl))
    (hd : (x == ("__debug__" : Str)) = false := by decide) (hcd : (x == ("__classdict__" : Str)) = false := by decide)
    (hbase : attributeBase (.Name x p) "append" X.env (eval (.Name x p) X.env) = eval (.Name x p) X.env := by rfl)
    (hfew : ((backTo cpos (starEach [.Constant (.str tx) kk cp] X.env)).all (fun x => !x.1) && (backToKw cpos (keywordEach [] X.env)).all (fun x => x.1.isSome)
      && decide (([.Constant (.str tx) kk cp] : List Expr).length + ([] : List Keyword).length + (if ([] : List Keyword).isEmpty then 0 else 1) < 30)) = true := by rfl)
    (hline : (apos.endLine == cpos.line) = true := by rfl) (hs : starEach [.Constant (.str tx) kk cp] X.env = (false, eval (.Constant (.str tx) kk cp) X.env) :: starEach [] X.env := by rfl)
    (hsw : swapsWith (.Call (.Attribute (.Name x p) "append" apos) [.Constant (.str tx) kk cp] [] cpos) none pos.line X.env = pure false := by rfl) :
    PSD X E mp (.Expr (.Call (.Attribute (.Name x p) "append" apos) [.Constant (.str tx) kk cp] [] cpos) pos) (fSpoilA i) := by
  refine ⟨_, ps_expr (pe_bm PySem.F.plainAttrs_list PySem.F.slot_list_append PySem.F.type_list_append mt_append (pv i hN hv hd hcd) (pa_cons pe_str pa_nil hs) hbase hfew hline hs rfl) hsw, ?_⟩
  intro σ H δ Ω R B h
  unfold fSpoilA at h
  split at h
  · rename_i xss hds
    split at h
    · rename_i hz
      obtain ⟨a, bs, b1, b2, b3, b4, b5, b6⟩ := R.sl i _ hds
      refine ⟨.ref a, join_some b1, .inl ⟨rfl, _, SqL.of b2⟩, ?_⟩
      unfold tCons tC tNil
      refine ⟨a, _, .str tx, rfl, rfl, b2, by rw [List.length_map, b5]; exact hz, ?_⟩
      exact h _ Ω (.putOw (k := i + 1) ⟨_, b2, rfl⟩ b3) σ (R.putS ⟨_, b2, rfl⟩ b3 trivial) fun _ _ => rfl
    · exact h.elim
  · exact h.elim
theorem refs_inj : ∀ {as bs : List Addr}, as.map V.ref = bs.map V.ref → as = bs
  | [], [], _ => rfl
  | [], _ :: _, h => by cases h
  | _ :: _, [], h => by cases h
  | a :: as, b :: bs, h => by
    injection h with h1 h2
    injection h1 with h1
    rw [h1, refs_inj h2]
theorem psd_spoil (i j : Nat) {x y tx : Str} {kk : Nat} {p p0 p2 cp apos cpos epos : Pos} (hp : PassesOwn (model X.prog X.w) X.A X.env X.xe) (hc : X.calm = true) (hND : X.N.Nodup) (hN : X.N[i]? = some x := by rfl) (hv : Vis X.env.scope x := by first | exact Or.inl rfl | exact Or.inr (Or.inl rfl) | exact Or.inr (Or.inr rfl))
    (hd : (x == ("__debug__" : Str)) = false := by decide) (hcd : (x == ("__classdict__" : Str)) = false := by decide)
    (hNj : X.N[j]? = some y := by rfl) (hvj : Vis X.env.scope y := by first | exact Or.inl rfl | exact Or.inr (Or.inl rfl) | exact Or.inr (Or.inr rfl))
    (hdj : (y == ("__debug__" : Str)) = false := by decide) (hcdj : (y == ("__classdict__" : Str)) = false := by decide)
    (hxj : Loc X.env.scope y := by first | exact Or.inl rfl | exact Or.inr rfl) (hfj : X.fn y = true ∨ X.env.scope.names.lookup y = some .local := by first | exact .inl rfl | exact .inr rfl) (hmj : j ∉ mp := by decide)
    (hset : ∀ z, foldedSetIterable (.Name x p) X.env z = pure z := by intro _; rfl)
    (hbase : attributeBase (.Name y p2) "append" X.env (eval (.Name y p2) X.env) = eval (.Name y p2) X.env := by rfl)
    (hfew : ((backTo cpos (starEach [.Constant (.str tx) kk cp] X.env)).all (fun x => !x.1) && (backToKw cpos (keywordEach [] X.env)).all (fun x => x.1.isSome)
      && decide (([.Constant (.str tx) kk cp] : List Expr).length + ([] : List Keyword).length + (if ([] : List Keyword).isEmpty then 0 else 1) < 30)) = true := by rfl)
    (hline : (apos.endLine == cpos.line) = true := by rfl) (hs : starEach [.Constant (.str tx) kk cp] X.env = (false, eval (.Constant (.str tx) kk cp) X.env) :: starEach [] X.env := by rfl)
    (hsw : swapsWith (.Call (.Attribute (.Name y p2) "append" apos) [.Constant (.str tx) kk cp] [] cpos) none epos.line X.env = pure false := by rfl) :
    PSD X E mp (.For (.Name y p0) (.Name x p) [.Expr (.Call (.Attribute (.Name y p2) "append" apos) [.Constant (.str tx) kk cp] [] cpos) epos] [] pos) (fSpoil i j (.str tx)) := by
  refine ⟨_, ps_for hp hc (pi_list (pv i hN hv hd hcd)) (pg_name hND hNj hxj hfj) (pss_one (ps_expr (pe_bm PySem.F.plainAttrs_list PySem.F.slot_list_append PySem.F.type_list_append mt_append (pv j hNj hvj hdj hcdj) (pa_cons pe_str pa_nil hs) hbase hfew hline hs rfl) hsw)) hset, ?_⟩
  intro σ H δ Ω R B h
  unfold fSpoil at h
  split at h
  · rename_i xss hds
    split at h
    · rename_i hcc
      obtain ⟨hij, hjl, hz⟩ := hcc
      obtain ⟨a, bs, b1, b2, b3, b4, b5, b6⟩ := R.sl i _ hds
      have hil : i < δ.length := (List.getElem?_eq_some_iff.mp hds).1
      refine ⟨.ref a, join_some b1, a, rfl, ⟨_, SqL.of b2⟩, fun t m σ' H' => m = xss.length - t ∧ t ≤ xss.length ∧ RepS X.K H' Ω σ' ((δ.set j .no).set i (.nw (spoil (.str tx) t xss))) ∧ Ext H Ω H' Ω ∧ H' a = some (.lst (bs.map V.ref)) ∧ σ'[i]? = some (some (.ref a)) ∧ ∀ q ∈ mp, σ'[q]? = σ[q]?, ⟨_, rfl, Nat.zero_le _, ?_, .refl, b2, join_some b1, fun _ _ => rfl⟩, ?_⟩
      · have h0 : spoil (.str tx) 0 xss = xss := by unfold spoil; rw [List.take_zero, List.drop_zero]; rfl
        have : (δ.set j .no).set i (.nw xss) = δ.set j .no := by
          refine List.ext_getElem? fun k => ?_
          by_cases hk : i = k
          · subst hk
            rw [List.getElem?_set_self (by rw [List.length_set]; exact hil), List.getElem?_set_ne (Ne.symm hij), hds]
          · rw [List.getElem?_set_ne hk]
        rw [h0, this]
        exact R.forget
      · rintro t m σ' H' ⟨rfl, hl, R', ex, ha, hσ, hm⟩
        have hsq : SqL X.K H' a (bs.map V.ref) := SqL.of ha
        by_cases hlt : t < xss.length
        · obtain ⟨b, hb⟩ : ∃ b, bs[t]? = some b := ⟨bs[t]'(by omega), List.getElem?_eq_getElem _⟩
          obtain ⟨xs, hxs⟩ : ∃ xs, xss[t]? = some xs := ⟨xss[t], List.getElem?_eq_getElem hlt⟩
          refine .inr ⟨⟨_, .ref b, hsq, by rw [List.getElem?_map, hb]; rfl⟩, fun σ2 H2 => RepS X.K H2 Ω σ2 ((δ.set j .no).set i (.nw (spoil (.str tx) (t + 1) xss))) ∧ Ext H Ω H2 Ω ∧ H2 a = some (.lst (bs.map V.ref)) ∧ σ2[i]? = some (some (.ref a)) ∧ ∀ q ∈ mp, σ2[q]? = σ[q]?, fun σ2 H2 ⟨z1, z2, z3, z4, z5⟩ => ⟨_, by omega, rfl, hlt, z1, z2, z3, z4, z5⟩, fun x H2 hy => ?_⟩
          obtain ⟨hh, hy⟩ := hy
          subst hh
          have hx := hy _ hsq
          rw [List.getElem?_map, hb] at hx
          cases hx
          have hσl : j < σ'.length := by rw [← R'.len, List.length_set, List.length_set]; exact hjl
          have hset : ((δ.set j .no).set i (.nw (spoil (.str tx) t xss))).set j .no = (δ.set j .no).set i (.nw (spoil (.str tx) t xss)) := by
            rw [List.set_comm _ _ hij, List.set_set]
          have R2 : RepS X.K H2 Ω (σ'.set j (some (.ref b))) ((δ.set j .no).set i (.nw (spoil (.str tx) t xss))) := by rw [← hset]; exact R'.set trivial
          have hσ2 : (σ'.set j (some (.ref b)))[i]? = some (some (.ref a)) := by rw [List.getElem?_set_ne (Ne.symm hij)]; exact hσ
          have hi2 : ((δ.set j .no).set i (.nw (spoil (.str tx) t xss)))[i]? = some (.nw (spoil (.str tx) t xss)) := List.getElem?_set_self (by rw [List.length_set]; exact hil)
          obtain ⟨a', bs', c1, c2, c3, c4, c5, c6⟩ := R2.sl i _ hi2
          have c1' := c1
          rw [hσ2] at c1
          cases c1
          rw [ha] at c2
          have hbs : bs = bs' := refs_inj (by injection c2 with c2; injection c2)
          subst hbs
          obtain ⟨ws, w1, w2, w3⟩ := c6 t b xs hb (spoil_get hxs)
          have ab : a ≠ b := by rintro rfl; exact (List.nodup_cons.mp c4).1 (List.mem_of_getElem? hb)
          have R3 := R2.putIn c1' ha c3 c4 c5 c6 hb (w3.append (.cons (show Rep X.K H2 Ω (.str tx) (.str tx) from rfl) .nil))
          rw [List.set_set, spoil_set hxs] at R3
          refine ⟨.ref b, List.getElem?_set_self hσl, .inl ⟨rfl, ws, SqL.of w1⟩, ?_⟩
          unfold tCons tC tNil
          refine ⟨b, ws, .str tx, rfl, rfl, w1, by rw [← w3.length]; exact hz xs (List.mem_of_getElem? hxs), ?_⟩
          exact ⟨R3, ex.trans (.putOw (k := i + 1) ⟨_, w1, rfl⟩ w2), by rw [upd_ne ab]; exact ha, hσ2, fun q hq => (set_same hmj q hq).trans (hm q hq)⟩
        · have : t = xss.length := by omega
          subst this
          exact .inl ⟨⟨_, hsq, by rw [List.length_map, b5]; exact Nat.le_refl _⟩, h H' Ω ex σ' R' hm⟩
    · exact h.elim
  · exact h.elim
end
section
variable {i j n : Nat} {δ δ1 δ2 : DSt} {f : DM DV} {f1 f2 : DM Fl} {fa : DM (List DV)} {as : List DV} {ds : List D} {xss : List (List D)} {Z : Rs Fl}
theorem ev_stW (h : f δ = .ok (.own []) δ1) : fSetW i f δ = .ok .nx (δ1.set i (.nw [])) := by unfold fSetW DM.bd; rw [h]
theorem ev_appW (ho : δ[i]? = some (.nw xss)) (h : f (δ.set i .no) = .ok (.own ds) δ1) (hz : xss.length < sizeLine) : fAppW i f δ = .ok .nx (δ1.set i (.nw (xss ++ [ds]))) := by unfold fAppW DM.bd; rw [ho]; simp only [h, if_pos hz]
theorem ev_sqR (h : f1 δ = .ok .nx δ1) (h2 : f2 δ1 = Z) : fSeqR f1 f2 δ = Z := by unfold fSeqR; rw [h]; exact h2
theorem ev_rtW (ho : δ[i]? = some (.nw xss)) : fRetW i δ = .ok .bk δ := by unfold fRetW; rw [ho]
theorem ev_rnL {body : DM Fl} (h : body (ds.map .sh ++ List.replicate (n - ds.length) .no) = .ok .bk δ1) (ho : δ1[i]? = some (.nw xss)) : runL body i n ds = some xss := by unfold runL; rw [h]; simp only [ho]
theorem ev_clL {M : List D → Option (List (List D))} (h : fa δ = .ok as δ1) (e : valsOf as = some ds) (hn : ds.length = n) (hM : M ds = some xss) : fCallL i n fa M δ = .ok .nx (δ1.set i (.nw xss)) := by unfold fCallL DM.bd; rw [h]; simp only [e, if_pos hn, hM]
theorem ev_lendN {mq : List Nat} (ho : δ[i]? = some (.nw xss)) (h : f1 (δ.set i (.sh (.lst (xss.map .lst)))) = .ok .nx δ1) : fLendN i mq f1 δ = .ok .nx ((thawL mq δ 0 δ1).set i (.nw xss)) := by unfold fLendN; rw [ho]; simp only [h]
theorem ev_spoil {d : D} (ho : δ[i]? = some (.nw xss)) (h1 : i ≠ j) (h2 : j < δ.length) (h3 : ∀ xs ∈ xss, xs.length < sizeLine) : fSpoil i j d δ = .ok .nx ((δ.set j .no).set i (.nw (spoil d xss.length xss))) := by unfold fSpoil; rw [ho]; simp only [if_pos (And.intro h1 (And.intro h2 h3))]
theorem ev_spoilA (ho : δ[i]? = some (.nw xss)) (h : xss.length < sizeLine) : fSpoilA i δ = .ok .nx (δ.set i .no) := by unfold fSpoilA; rw [ho]; simp only [if_pos h]
end
end DL
namespace Lw
open PySem L2 DL PyProof.Rows
noncomputable def top (i : Nat) : Stmt := PySem.Challenge.pw_loopbed_k18_passes.main.body.getD i (.Pass ⟨0, 0, 0, 0⟩)
theorem bo_all : bootBuiltins "all" = some (.builtin "all") := by decide +kernel
theorem bo_len : bootBuiltins "len" = some (.builtin "len") := by decide +kernel
theorem bo_list : bootBuiltins "list" = some (.type "list") := by decide +kernel
theorem bo_max : bootBuiltins "max" = some (.builtin "max") := by decide +kernel
theorem bo_min : bootBuiltins "min" = some (.builtin "min") := by decide +kernel
theorem bo_set : bootBuiltins "set" = some (.type "set") := by decide +kernel
theorem bo_tuple : bootBuiltins "tuple" = some (.type "tuple") := by decide +kernel
structure Txt (K : PySem.W.Frag) (mg : Str → Option Value) : Prop where
  b_all : mg "all" = none
  b_isinstance : mg "isinstance" = none
  b_len : mg "len" = none
  b_list : mg "list" = none
  b_max : mg "max" = none
  b_min : mg "min" = none
  b_range : mg "range" = none
  b_set : mg "set" = none
  b_tuple : mg "tuple" = none
theorem nd_0 : (["k", "deeds"] : List Str).Nodup := by decide +kernel
theorem nd_1 : (["deed"] : List Str).Nodup := by decide +kernel
section
variable {P : Program} {w : World} {K : PySem.W.Frag} {mg : Str → Option Value} {base : Heap}
noncomputable abbrev s_cell_at : Stmt := top 7
theorem sc_cell_at : FnScope ["script", "k"] ["script", "k"] (defScope s_cell_at) := ⟨rfl, rfl, rfl, by decide +kernel, rfl, by decide +kernel, by decide +kernel⟩
noncomputable def b_cell_at : DM Fl :=
    (fSeq (fIf (fTest (fBin (fVar 1) (fCB (fCons (fVar 0) fNil) gLen) (gCmp lt))) (fRet (fBin (fVar 0) (fVar 1) gIx)) fNext)
    (fRet (fC (.int 0))))
noncomputable def m_cell_at : List D → Ro := runP b_cell_at 2
theorem ok_cell_at {f : Addr} {fd : FuncData} (F : Fun K "_law_cell_at" "_law_cell_at" s_cell_at f fd) (T : Txt K mg)  : FnOk P w K mg base CX0 1 f fd ["script", "k"] (spP K (fun _ => .none) 2 m_cell_at) :=
  fnP F sc_cell_at fun cdv A outer s H E hr =>
      (psd_cons (psd_if (ptd_cmp cmp_lt (ped_var 1) (ped_cb cb_len T.b_len bo_len (pad_cons (ped_var 0) pad_nil)) (nomark _)) (psd_one (psd_ret (ped_ix (ped_var 0) (ped_var 1)))) psd_nil)
      (psd_one (psd_ret ped_int)))
noncomputable abbrev s_mix : Stmt := top 8
theorem sc_mix : FnScope ["cell", "k", "seed"] ["cell", "k"] (defScope s_mix) := ⟨rfl, rfl, rfl, by decide +kernel, rfl, by decide +kernel, by decide +kernel⟩
noncomputable def b_mix : DM Fl :=
    (fSeq (fSet 2 (fBin (fBin (fVar 0) (fBin (fC (.int 7919)) (fBin (fVar 1) (fC (.int 3)) gAdd) gMul) gAdd) (fC (.int 2147483647)) gMod))
    (fSeq (fSet 2 (fBin (fBin (fBin (fBin (fVar 2) (fVar 2) gMul) (fBin (fC (.int 104729)) (fVar 1) gMul) gAdd) (fC (.int 5)) gAdd) (fC (.int 2147483629)) gMod))
    (fRet (fBin (fBin (fVar 2) (fVar 2) gMul) (fC (.int 2147483587)) gMod))))
noncomputable def m_mix : List D → Ro := runP b_mix 3
theorem ok_mix {f : Addr} {fd : FuncData} (F : Fun K "_law_mix" "_law_mix" s_mix f fd) (T : Txt K mg)  : FnOk P w K mg base CX0 1 f fd ["cell", "k"] (spP K (fun _ => .none) 2 m_mix) :=
  fnP F sc_mix fun cdv A outer s H E hr =>
      (psd_cons (psd_set 2 sc_mix.nd (ped_bin bin_mod (ped_bin bin_add (ped_var 0) (ped_bin bin_mul ped_int (ped_bin bin_add (ped_var 1) ped_int))) ped_int))
      (psd_cons (psd_set 2 sc_mix.nd (ped_bin bin_mod (ped_bin bin_add (ped_bin bin_add (ped_bin bin_mul (ped_var 2) (ped_var 2)) (ped_bin bin_mul ped_int (ped_var 1))) ped_int) ped_int))
      (psd_one (psd_ret (ped_bin bin_mod (ped_bin bin_mul (ped_var 2) (ped_var 2)) ped_int)))))
noncomputable abbrev s_any_deed : Stmt := top 9
theorem sc_any_deed : FnScope ["cell", "row", "at", "to"] ["cell"] (defScope s_any_deed) := ⟨rfl, rfl, rfl, by decide +kernel, rfl, by decide +kernel, by decide +kernel⟩
noncomputable def b_any_deed : DM Fl :=
    (fSeq (fSet 1 (fBin (fC (.str "fb")) (fBin (fBin (fCall 2 (fCons (fVar 0) (fCons (fC (.int 1)) fNil)) m_mix) (fC (.int 7)) gDiv) (fC (.int 2)) gMod) gIx))
    (fSeq (fSet 2 (fBin (fBin (fCall 2 (fCons (fVar 0) (fCons (fC (.int 2)) fNil)) m_mix) (fC (.int 7)) gDiv) (fC (.int 16)) gMod))
    (fSeq (fIf (fTest (fBin (fBin (fBin (fCall 2 (fCons (fVar 0) (fCons (fC (.int 3)) fNil)) m_mix) (fC (.int 7)) gDiv) (fC (.int 2)) gMod) (fC (.int 0)) gEq)) (fRet (fTup (fCons (fBin (fLst (fCons (fC (.str "knit")) (fCons (fC (.str "tuck")) fNil))) (fBin (fBin (fCall 2 (fCons (fVar 0) (fCons (fC (.int 5)) fNil)) m_mix) (fC (.int 7)) gDiv) (fC (.int 2)) gMod) gIx) (fCons (fVar 1) (fCons (fVar 2) (fCons (fBin (fC (.str "abcdef")) (fBin (fBin (fCall 2 (fCons (fVar 0) (fCons (fC (.int 4)) fNil)) m_mix) (fC (.int 7)) gDiv) (fC (.int 6)) gMod) gIx) fNil)))))) fNext)
    (fSeq (fSet 3 (fBin (fVar 2) (fBin (fLst (fCons (fUn (fC (.int 2)) gNeg) (fCons (fUn (fC (.int 1)) gNeg) (fCons (fC (.int 0)) (fCons (fC (.int 0)) (fCons (fC (.int 1)) (fCons (fC (.int 2)) fNil))))))) (fBin (fBin (fCall 2 (fCons (fVar 0) (fCons (fC (.int 6)) fNil)) m_mix) (fC (.int 7)) gDiv) (fC (.int 6)) gMod) gIx) gAdd))
    (fSeq (fIf (fTest (fBin (fBin (fBin (fCall 2 (fCons (fVar 0) (fCons (fC (.int 9)) fNil)) m_mix) (fC (.int 7)) gDiv) (fC (.int 3)) gMod) (fC (.int 0)) gEq)) (fSet 3 (fBin (fBin (fCall 2 (fCons (fVar 0) (fCons (fC (.int 10)) fNil)) m_mix) (fC (.int 7)) gDiv) (fC (.int 16)) gMod)) fNext)
    (fRet (fTup (fCons (fC (.str "move")) (fCons (fVar 1) (fCons (fVar 2) (fCons (fCB (fCons (fC (.int 0)) (fCons (fCB (fCons (fC (.int 15)) (fCons (fVar 3) fNil)) gMin) fNil)) gMax) fNil)))))))))))
noncomputable def m_any_deed : List D → Ro := runP b_any_deed 4
theorem ok_any_deed {f : Addr} {fd : FuncData} (F : Fun K "_law_any_deed" "_law_any_deed" s_any_deed f fd) (T : Txt K mg) (F_mix : DefP P w K mg base 1 "_law_mix" 2 m_mix) : FnOk P w K mg base CX0 2 f fd ["cell"] (spP K (fun _ => .none) 1 m_any_deed) :=
  fnP F sc_any_deed fun cdv A outer s H E hr =>
      (psd_cons (psd_set 1 sc_any_deed.nd (ped_ix ped_str (ped_bin bin_mod (ped_bin bin_div (ped_call F_mix (hr.mono (by decide)) (pad_cons (ped_var 0) (pad_cons ped_int pad_nil))) ped_int) ped_int)))
      (psd_cons (psd_set 2 sc_any_deed.nd (ped_bin bin_mod (ped_bin bin_div (ped_call F_mix (hr.mono (by decide)) (pad_cons (ped_var 0) (pad_cons ped_int pad_nil))) ped_int) ped_int))
      (psd_cons (psd_if (ptd_cmp (cmp_eq hr.units) (ped_bin bin_mod (ped_bin bin_div (ped_call F_mix (hr.mono (by decide)) (pad_cons (ped_var 0) (pad_cons ped_int pad_nil))) ped_int) ped_int) ped_int (nomark _)) (psd_one (psd_ret (ped_tup (pad_cons (ped_ix (ped_lst (pad_cons ped_str (pad_cons ped_str pad_nil))) (ped_bin bin_mod (ped_bin bin_div (ped_call F_mix (hr.mono (by decide)) (pad_cons (ped_var 0) (pad_cons ped_int pad_nil))) ped_int) ped_int)) (pad_cons (ped_var 1) (pad_cons (ped_var 2) (pad_cons (ped_ix ped_str (ped_bin bin_mod (ped_bin bin_div (ped_call F_mix (hr.mono (by decide)) (pad_cons (ped_var 0) (pad_cons ped_int pad_nil))) ped_int) ped_int)) pad_nil))))))) psd_nil)
      (psd_cons (psd_set 3 sc_any_deed.nd (ped_bin bin_add (ped_var 2) (ped_ix (ped_lst (pad_cons (ped_neg ped_int) (pad_cons (ped_neg ped_int) (pad_cons ped_int (pad_cons ped_int (pad_cons ped_int (pad_cons ped_int pad_nil))))))) (ped_bin bin_mod (ped_bin bin_div (ped_call F_mix (hr.mono (by decide)) (pad_cons (ped_var 0) (pad_cons ped_int pad_nil))) ped_int) ped_int))))
      (psd_cons (psd_if (ptd_cmp (cmp_eq hr.units) (ped_bin bin_mod (ped_bin bin_div (ped_call F_mix (hr.mono (by decide)) (pad_cons (ped_var 0) (pad_cons ped_int pad_nil))) ped_int) ped_int) ped_int (nomark _)) (psd_one (psd_set 3 sc_any_deed.nd (ped_bin bin_mod (ped_bin bin_div (ped_call F_mix (hr.mono (by decide)) (pad_cons (ped_var 0) (pad_cons ped_int pad_nil))) ped_int) ped_int))) psd_nil)
      (psd_one (psd_ret (ped_tup (pad_cons ped_str (pad_cons (ped_var 1) (pad_cons (ped_var 2) (pad_cons (ped_cb (cb_max rfl) T.b_max bo_max (pad_cons ped_int (pad_cons (ped_cb (cb_min rfl) T.b_min bo_min (pad_cons ped_int (pad_cons (ped_var 3) pad_nil))) pad_nil))) pad_nil))))))))))))
noncomputable abbrev s_next_deed : Stmt := top 10
theorem sc_next_deed : FnScope ["deed", "cell", "step", "at", "to"] ["deed", "cell"] (defScope s_next_deed) := ⟨rfl, rfl, rfl, by decide +kernel, rfl, by decide +kernel, by decide +kernel⟩
noncomputable def b_next_deed : DM Fl :=
    (fSeq (fSet 2 (fBin (fC (.int 1)) (fBin (fC (.int 2)) (fBin (fBin (fBin (fCall 2 (fCons (fVar 1) (fCons (fC (.int 7)) fNil)) m_mix) (fC (.int 7)) gDiv) (fC (.int 4)) gMod) (fC (.int 3)) gDiv) gMul) gSub))
    (fSeq (fSet 3 (fBin (fBin (fVar 0) (fC (.int 2)) gIx) (fVar 2) gAdd))
    (fSeq (fIf (fNotT (fTest (fChain (fC (.int 0)) (fVar 3) (fC (.int 15)) (gCmp le) (gCmp le)))) (fRet (fCall 1 (fCons (fVar 1) fNil) m_any_deed)) fNext)
    (fSeq (fIf (fTest (fBin (fBin (fVar 0) (fC (.int 0)) gIx) (fC (.str "move")) gEq)) (fSeq (fSet 4 (fBin (fBin (fVar 0) (fC (.int 3)) gIx) (fVar 2) gAdd))
    (fSeq (fIf (fTest (fBin (fBin (fBin (fCall 2 (fCons (fVar 1) (fCons (fC (.int 11)) fNil)) m_mix) (fC (.int 7)) gDiv) (fC (.int 8)) gMod) (fC (.int 0)) gEq)) (fSet 4 (fBin (fBin (fVar 3) (fBin (fVar 0) (fC (.int 3)) gIx) gSub) (fBin (fVar 0) (fC (.int 2)) gIx) gAdd)) fNext)
    (fSeq (fIf (fNotT (fTest (fChain (fC (.int 0)) (fVar 4) (fC (.int 15)) (gCmp le) (gCmp le)))) (fRet (fCall 1 (fCons (fVar 1) fNil) m_any_deed)) fNext)
    (fSeq (fIf (fTest (fBin (fBin (fBin (fCall 2 (fCons (fVar 1) (fCons (fC (.int 12)) fNil)) m_mix) (fC (.int 7)) gDiv) (fC (.int 9)) gMod) (fC (.int 0)) gEq)) (fRet (fTup (fCons (fC (.str "move")) (fCons (fBin (fC (.str "bf")) (fBM (fC (.str "fb")) (fCons (fBin (fVar 0) (fC (.int 1)) gIx) fNil) gIndex) gIx) (fCons (fVar 3) (fCons (fVar 4) fNil)))))) fNext)
    (fRet (fTup (fCons (fC (.str "move")) (fCons (fBin (fVar 0) (fC (.int 1)) gIx) (fCons (fVar 3) (fCons (fVar 4) fNil)))))))))) fNext)
    (fRet (fTup (fCons (fBin (fLst (fCons (fC (.str "knit")) (fCons (fC (.str "tuck")) fNil))) (fBin (fBin (fCall 2 (fCons (fVar 1) (fCons (fC (.int 5)) fNil)) m_mix) (fC (.int 7)) gDiv) (fC (.int 2)) gMod) gIx) (fCons (fBin (fC (.str "fb")) (fBin (fBin (fCall 2 (fCons (fVar 1) (fCons (fC (.int 1)) fNil)) m_mix) (fC (.int 7)) gDiv) (fC (.int 2)) gMod) gIx) (fCons (fVar 3) (fCons (fBin (fVar 0) (fC (.int 3)) gIx) fNil))))))))))
noncomputable def m_next_deed : List D → Ro := runP b_next_deed 5
theorem ok_next_deed {f : Addr} {fd : FuncData} (F : Fun K "_law_next_deed" "_law_next_deed" s_next_deed f fd) (T : Txt K mg) (F_any_deed : DefP P w K mg base 2 "_law_any_deed" 1 m_any_deed) (F_mix : DefP P w K mg base 1 "_law_mix" 2 m_mix) : FnOk P w K mg base CX0 3 f fd ["deed", "cell"] (spP K (fun _ => .none) 2 m_next_deed) :=
  fnP F sc_next_deed fun cdv A outer s H E hr =>
      (psd_cons (psd_set 2 sc_next_deed.nd (ped_bin bin_sub ped_int (ped_bin bin_mul ped_int (ped_bin bin_div (ped_bin bin_mod (ped_bin bin_div (ped_call F_mix (hr.mono (by decide)) (pad_cons (ped_var 1) (pad_cons ped_int pad_nil))) ped_int) ped_int) ped_int))))
      (psd_cons (psd_set 3 sc_next_deed.nd (ped_bin bin_add (ped_ix (ped_var 0) ped_int) (ped_var 2)))
      (psd_cons (psd_if (ptd_not (ptd_chain cmp_le cmp_le ped_int (ped_var 3) ped_int)) (psd_one (psd_ret (ped_call F_any_deed (hr.mono (by decide)) (pad_cons (ped_var 1) pad_nil)))) psd_nil)
      (psd_cons (psd_if (ptd_cmp (cmp_eq hr.units) (ped_ix (ped_var 0) ped_int) ped_str (nomark _)) (psd_cons (psd_set 4 sc_next_deed.nd (ped_bin bin_add (ped_ix (ped_var 0) ped_int) (ped_var 2)))
      (psd_cons (psd_if (ptd_cmp (cmp_eq hr.units) (ped_bin bin_mod (ped_bin bin_div (ped_call F_mix (hr.mono (by decide)) (pad_cons (ped_var 1) (pad_cons ped_int pad_nil))) ped_int) ped_int) ped_int (nomark _)) (psd_one (psd_set 4 sc_next_deed.nd (ped_bin bin_add (ped_bin bin_sub (ped_var 3) (ped_ix (ped_var 0) ped_int)) (ped_ix (ped_var 0) ped_int)))) psd_nil)
      (psd_cons (psd_if (ptd_not (ptd_chain cmp_le cmp_le ped_int (ped_var 4) ped_int)) (psd_one (psd_ret (ped_call F_any_deed (hr.mono (by decide)) (pad_cons (ped_var 1) pad_nil)))) psd_nil)
      (psd_cons (psd_if (ptd_cmp (cmp_eq hr.units) (ped_bin bin_mod (ped_bin bin_div (ped_call F_mix (hr.mono (by decide)) (pad_cons (ped_var 1) (pad_cons ped_int pad_nil))) ped_int) ped_int) ped_int (nomark _)) (psd_one (psd_ret (ped_tup (pad_cons ped_str (pad_cons (ped_ix ped_str (ped_bm md_index PySem.F.slot_str_index PySem.F.type_str_index ped_str (pad_cons (ped_ix (ped_var 0) ped_int) pad_nil))) (pad_cons (ped_var 3) (pad_cons (ped_var 4) pad_nil))))))) psd_nil)
      (psd_one (psd_ret (ped_tup (pad_cons ped_str (pad_cons (ped_ix (ped_var 0) ped_int) (pad_cons (ped_var 3) (pad_cons (ped_var 4) pad_nil))))))))))) psd_nil)
      (psd_one (psd_ret (ped_tup (pad_cons (ped_ix (ped_lst (pad_cons ped_str (pad_cons ped_str pad_nil))) (ped_bin bin_mod (ped_bin bin_div (ped_call F_mix (hr.mono (by decide)) (pad_cons (ped_var 1) (pad_cons ped_int pad_nil))) ped_int) ped_int)) (pad_cons (ped_ix ped_str (ped_bin bin_mod (ped_bin bin_div (ped_call F_mix (hr.mono (by decide)) (pad_cons (ped_var 1) (pad_cons ped_int pad_nil))) ped_int) ped_int)) (pad_cons (ped_var 3) (pad_cons (ped_ix (ped_var 0) ped_int) pad_nil)))))))))))
noncomputable abbrev s_some_deeds : Stmt := top 11
theorem sc_some_deeds : FnScope ["script", "many", "deeds", "k", "cell", "way"] ["script", "many"] (defScope s_some_deeds) := ⟨rfl, rfl, rfl, by decide +kernel, rfl, by decide +kernel, by decide +kernel⟩
noncomputable def b_some_deeds : DM Fl :=
    (fSeq (fSetO 2 (fLst fNil))
    (fSeq (fFor (fRng1 (fCons (fVar 1) fNil)) (sName 3) (fSeq (fSet 4 (fBin (fBin (fCall 2 (fCons (fVar 0) (fCons (fBin (fC (.int 2)) (fVar 3) gAdd) fNil)) m_cell_at) (fC (.int 1000003)) gMod) (fBin (fC (.int 5003)) (fVar 3) gMul) gAdd))
    (fSeq (fSet 5 (fBin (fBin (fCall 2 (fCons (fVar 4) (fCons (fC (.int 8)) fNil)) m_mix) (fC (.int 7)) gDiv) (fC (.int 12)) gMod))
    (fIf (fOrT (fTest (fBin (fVar 3) (fC (.int 0)) gEq)) (fTest (fBin (fVar 5) (fC (.int 2)) (gCmp lt)))) (fApp' 2 (fCall 1 (fCons (fVar 4) fNil) m_any_deed)) (fIf (fTest (fBin (fVar 5) (fC (.int 2)) gEq)) (fApp' 2 (fBin (fVar 2) (fUn (fC (.int 1)) gNeg) gIx)) (fApp' 2 (fCall 2 (fCons (fBin (fVar 2) (fUn (fC (.int 1)) gNeg) gIx) (fCons (fVar 4) fNil)) m_next_deed)))))))
    (fRet (fVar 2))))
noncomputable def m_some_deeds : List D → Ro := runP b_some_deeds 6
theorem ok_some_deeds {f : Addr} {fd : FuncData} (F : Fun K "_law_some_deeds" "_law_some_deeds" s_some_deeds f fd) (T : Txt K mg) (F_cell_at : DefP P w K mg base 1 "_law_cell_at" 2 m_cell_at) (F_mix : DefP P w K mg base 1 "_law_mix" 2 m_mix) (F_any_deed : DefP P w K mg base 2 "_law_any_deed" 1 m_any_deed) (F_next_deed : DefP P w K mg base 3 "_law_next_deed" 2 m_next_deed) : FnOk P w K mg base CX0 4 f fd ["script", "many"] (spP K (fun _ => .none) 2 m_some_deeds) :=
  fnP F sc_some_deeds fun cdv A outer s H E hr =>
      (psd_cons (psd_setO 2 sc_some_deeds.nd (ped_lst pad_nil))
      (psd_cons (psd_for PassesOwn.never rfl (pid_rng1 T.b_range (pad_cons (ped_var 1) pad_nil)) (pgd_name sc_some_deeds.nd) (psd_cons (psd_set 4 sc_some_deeds.nd (ped_bin bin_add (ped_bin bin_mod (ped_call F_cell_at (hr.mono (by decide)) (pad_cons (ped_var 0) (pad_cons (ped_bin bin_add ped_int (ped_var 3)) pad_nil))) ped_int) (ped_bin bin_mul ped_int (ped_var 3))))
      (psd_cons (psd_set 5 sc_some_deeds.nd (ped_bin bin_mod (ped_bin bin_div (ped_call F_mix (hr.mono (by decide)) (pad_cons (ped_var 4) (pad_cons ped_int pad_nil))) ped_int) ped_int))
      (psd_one (psd_if (ptd_bool (pwd_or (ptd_cmp (cmp_eq hr.units) (ped_var 3) ped_int (nomark _)) (pwd_or1 (ptd_cmp cmp_lt (ped_var 5) ped_int (nomark _))))) (psd_one (psd_app 2 (ped_call F_any_deed (hr.mono (by decide)) (pad_cons (ped_var 4) pad_nil)))) (psd_one (psd_if (ptd_cmp (cmp_eq hr.units) (ped_var 5) ped_int (nomark _)) (psd_one (psd_app 2 (ped_ix (ped_var 2) (ped_neg ped_int)))) (psd_one (psd_app 2 (ped_call F_next_deed (hr.mono (by decide)) (pad_cons (ped_ix (ped_var 2) (ped_neg ped_int)) (pad_cons (ped_var 4) pad_nil))))))))))))
      (psd_one (psd_ret (ped_var 2)))))
noncomputable abbrev s_loops_end : Stmt := top 5
theorem sc_loops_end : FnScope ["deeds", "start", "settled", "at", "before", "deed", "rises"] ["deeds", "start"] (defScope s_loops_end) := ⟨rfl, rfl, rfl, by decide +kernel, rfl, by decide +kernel, by decide +kernel⟩
noncomputable def b_loops_end : DM Fl :=
    (fSeq (fSet 2 (fC .non))
    (fSeq (fFor (fRng2 (fCons (fBin (fVar 1) (fC (.int 1)) gAdd) (fCons (fCB (fCons (fVar 0) fNil) gLen) fNil))) (sName 3) (fSeq (fSet 4 (fBin (fVar 0) (fBin (fVar 3) (fC (.int 1)) gSub) gIx))
    (fSeq (fSet 5 (fBin (fVar 0) (fVar 3) gIx))
    (fSeq (fIf (fOrT (fTest (fBin (fBin (fVar 5) (fC (.int 0)) gIx) (fC (.str "move")) gEq)) (fOrT (fTest (fBin (fBin (fVar 5) (fC (.int 3)) gIx) (fBin (fVar 4) (fC (.int 3)) gIx) gNe)) (fTest (fBin (fBin (fVar 5) (fC (.int 2)) gIx) (fBin (fVar 4) (fC (.int 2)) gIx) gEq)))) (fRet (fVar 3)) fNext)
    (fSeq (fSet 6 (fBin (fBin (fVar 5) (fC (.int 2)) gIx) (fBin (fVar 4) (fC (.int 2)) gIx) (gCmp gt)))
    (fSeq (fIf (fAndT (fTest (fBin (fVar 2) (fC .non) gIsNotN)) (fTest (fBin (fVar 6) (fVar 2) gNe))) (fRet (fVar 3)) fNext)
    (fSet 2 (fVar 6))))))))
    (fRet (fCB (fCons (fVar 0) fNil) gLen))))
noncomputable def m_loops_end : List D → Ro := runP b_loops_end 7
theorem ok_loops_end {f : Addr} {fd : FuncData} (F : Fun K "loops_end" "loops_end" s_loops_end f fd) (T : Txt K mg)  : FnOk P w K mg base CX0 1 f fd ["deeds", "start"] (spP K (fun _ => .none) 2 m_loops_end) :=
  fnP F sc_loops_end fun cdv A outer s H E hr =>
      (psd_cons (psd_set 2 sc_loops_end.nd ped_non)
      (psd_cons (psd_for PassesOwn.never rfl (pid_rng2 T.b_range (pad_cons (ped_bin bin_add (ped_var 1) ped_int) (pad_cons (ped_cb cb_len T.b_len bo_len (pad_cons (ped_var 0) pad_nil)) pad_nil))) (pgd_name sc_loops_end.nd) (psd_cons (psd_set 4 sc_loops_end.nd (ped_ix (ped_var 0) (ped_bin bin_sub (ped_var 3) ped_int)))
      (psd_cons (psd_set 5 sc_loops_end.nd (ped_ix (ped_var 0) (ped_var 3)))
      (psd_cons (psd_if (ptd_bool (pwd_or (ptd_cmp (cmp_eq hr.units) (ped_ix (ped_var 5) ped_int) ped_str (nomark _)) (pwd_or (ptd_cmp (cmp_ne hr.units) (ped_ix (ped_var 5) ped_int) (ped_ix (ped_var 4) ped_int) (nomark _)) (pwd_or1 (ptd_cmp (cmp_eq hr.units) (ped_ix (ped_var 5) ped_int) (ped_ix (ped_var 4) ped_int) (nomark _)))))) (psd_one (psd_ret (ped_var 3))) psd_nil)
      (psd_cons (psd_set 6 sc_loops_end.nd (ped_cmp cmp_gt (ped_ix (ped_var 5) ped_int) (ped_ix (ped_var 4) ped_int) (nomark _)))
      (psd_cons (psd_if (ptd_bool (pwd_and (ptd_cmp cmp_isnot (ped_var 2) ped_non (nomark _)) (pwd_and1 (ptd_cmp (cmp_ne hr.units) (ped_var 6) (ped_var 2) (nomark _))))) (psd_one (psd_ret (ped_var 3))) psd_nil)
      (psd_one (psd_set 2 sc_loops_end.nd (ped_var 6)))))))))
      (psd_one (psd_ret (ped_cb cb_len T.b_len bo_len (pad_cons (ped_var 0) pad_nil))))))
noncomputable abbrev s_is_move_beside : Stmt := top 4
theorem sc_is_move_beside : FnScope ["first", "deed"] ["first", "deed"] (defScope s_is_move_beside) := ⟨rfl, rfl, rfl, by decide +kernel, rfl, by decide +kernel, by decide +kernel⟩
noncomputable def b_is_move_beside : DM Fl :=
    (fRet (fAndV (fBin (fBin (fVar 1) (fC (.int 0)) gIx) (fC (.str "move")) gEq) (fAndV (fBin (fBin (fVar 1) (fC (.int 1)) gIx) (fBin (fVar 0) (fC (.int 1)) gIx) gEq) (fBin (fBin (fBin (fVar 1) (fC (.int 3)) gIx) (fBin (fVar 1) (fC (.int 2)) gIx) gSub) (fBin (fBin (fVar 0) (fC (.int 3)) gIx) (fBin (fVar 0) (fC (.int 2)) gIx) gSub) gEq))))
noncomputable def m_is_move_beside : List D → Ro := runP b_is_move_beside 2
theorem ok_is_move_beside {f : Addr} {fd : FuncData} (F : Fun K "is_move_beside" "is_move_beside" s_is_move_beside f fd) (T : Txt K mg)  : FnOk P w K mg base CX0 1 f fd ["first", "deed"] (spP K (fun _ => .none) 2 m_is_move_beside) :=
  fnP F sc_is_move_beside fun cdv A outer s H E hr =>
      (psd_one (psd_ret (ped_and (ped_cmp (cmp_eq hr.units) (ped_ix (ped_var 1) ped_int) ped_str (nomark _)) (ped_and (ped_cmp (cmp_eq hr.units) (ped_ix (ped_var 1) ped_int) (ped_ix (ped_var 0) ped_int) (nomark _)) (ped_one (ped_cmp (cmp_eq hr.units) (ped_bin bin_sub (ped_ix (ped_var 1) ped_int) (ped_ix (ped_var 1) ped_int)) (ped_bin bin_sub (ped_ix (ped_var 0) ped_int) (ped_ix (ped_var 0) ped_int)) (nomark _)))))))
noncomputable abbrev s_moves_end : Stmt := top 3
theorem sc_moves_end : FnScope ["deeds", "start", "first", "emptied", "at", "deed"] ["deeds", "start"] (defScope s_moves_end) := ⟨rfl, rfl, rfl, by decide +kernel, rfl, by decide +kernel, by decide +kernel⟩
noncomputable def b_moves_end : DM Fl :=
    (fSeq (fSet 2 (fBin (fVar 0) (fVar 1) gIx))
    (fSeq (fDict0 3)
    (fSeq (fFor (fRng2 (fCons (fVar 1) (fCons (fCB (fCons (fVar 0) fNil) gLen) fNil))) (sName 4) (fSeq (fSet 5 (fBin (fVar 0) (fVar 4) gIx))
    (fSeq (fIf (fOrT (fNotT (fTest (fCall 2 (fCons (fVar 2) (fCons (fVar 5) fNil)) m_is_move_beside))) (fTest (fInD (fBin (fVar 5) (fC (.int 2)) gIx) 3))) (fRet (fVar 4)) fNext)
    (fPutD 3 (fC (.bl true)) (fBin (fVar 5) (fC (.int 2)) gIx)))))
    (fRet (fCB (fCons (fVar 0) fNil) gLen)))))
noncomputable def m_moves_end : List D → Ro := runP b_moves_end 6
theorem ok_moves_end {f : Addr} {fd : FuncData} (F : Fun K "moves_end" "moves_end" s_moves_end f fd) (T : Txt K mg) (F_is_move_beside : DefP P w K mg base 1 "is_move_beside" 2 m_is_move_beside) : FnOk P w K mg base CX0 2 f fd ["deeds", "start"] (spP K (fun _ => .none) 2 m_moves_end) :=
  fnP F sc_moves_end fun cdv A outer s H E hr =>
      (psd_cons (psd_set 2 sc_moves_end.nd (ped_ix (ped_var 0) (ped_var 1)))
      (psd_cons (psd_dict0 3 sc_moves_end.nd)
      (psd_cons (psd_for PassesOwn.never rfl (pid_rng2 T.b_range (pad_cons (ped_var 1) (pad_cons (ped_cb cb_len T.b_len bo_len (pad_cons (ped_var 0) pad_nil)) pad_nil))) (pgd_name sc_moves_end.nd) (psd_cons (psd_set 5 sc_moves_end.nd (ped_ix (ped_var 0) (ped_var 4)))
      (psd_cons (psd_if (ptd_bool (pwd_or (ptd_not (ptd_val (ped_call F_is_move_beside (hr.mono (by decide)) (pad_cons (ped_var 2) (pad_cons (ped_var 5) pad_nil))))) (pwd_or1 (ptd_inD (hu_of hr) 3 (ped_ix (ped_var 5) ped_int))))) (psd_one (psd_ret (ped_var 4))) psd_nil)
      (psd_one (psd_putD (hu_of hr) 3 ped_bl (ped_ix (ped_var 5) ped_int))))))
      (psd_one (psd_ret (ped_cb cb_len T.b_len bo_len (pad_cons (ped_var 0) pad_nil)))))))
noncomputable abbrev s_pass_end : Stmt := top 2
theorem sc_pass_end : FnScope ["deeds", "start"] ["deeds", "start"] (defScope s_pass_end) := ⟨rfl, rfl, rfl, by decide +kernel, rfl, by decide +kernel, by decide +kernel⟩
noncomputable def b_pass_end : DM Fl :=
    (fSeq (fIf (fTest (fBin (fBin (fBin (fVar 0) (fVar 1) gIx) (fC (.int 0)) gIx) (fC (.str "move")) gEq)) (fRet (fCall 2 (fCons (fVar 0) (fCons (fVar 1) fNil)) m_moves_end)) fNext)
    (fRet (fCall 2 (fCons (fVar 0) (fCons (fVar 1) fNil)) m_loops_end)))
noncomputable def m_pass_end : List D → Ro := runP b_pass_end 2
theorem ok_pass_end {f : Addr} {fd : FuncData} (F : Fun K "pass_end" "pass_end" s_pass_end f fd) (T : Txt K mg) (F_loops_end : DefP P w K mg base 1 "loops_end" 2 m_loops_end) (F_moves_end : DefP P w K mg base 2 "moves_end" 2 m_moves_end) : FnOk P w K mg base CX0 3 f fd ["deeds", "start"] (spP K (fun _ => .none) 2 m_pass_end) :=
  fnP F sc_pass_end fun cdv A outer s H E hr =>
      (psd_cons (psd_if (ptd_cmp (cmp_eq hr.units) (ped_ix (ped_ix (ped_var 0) (ped_var 1)) ped_int) ped_str (nomark _)) (psd_one (psd_ret (ped_call F_moves_end (hr.mono (by decide)) (pad_cons (ped_var 0) (pad_cons (ped_var 1) pad_nil))))) psd_nil)
      (psd_one (psd_ret (ped_call F_loops_end (hr.mono (by decide)) (pad_cons (ped_var 0) (pad_cons (ped_var 1) pad_nil))))))
noncomputable abbrev s_passes : Stmt := top 1
theorem sc_passes : FnScope ["deeds", "found", "start", "end"] ["deeds"] (defScope s_passes) := ⟨rfl, rfl, rfl, by decide +kernel, rfl, by decide +kernel, by decide +kernel⟩
noncomputable def b_passes : DM Fl :=
    (fSeq (fSetO 1 (fLst fNil))
    (fSeq (fSet 2 (fC (.int 0)))
    (fSeq (whileD (fTest (fBin (fVar 2) (fCB (fCons (fVar 0) fNil) gLen) (gCmp lt))) (fSeq (fSet 3 (fCall 2 (fCons (fVar 0) (fCons (fVar 2) fNil)) m_pass_end))
    (fSeq (fApp' 1 (fSlice (fVar 0) (fPart (fVar 2)) (fPart (fVar 3))))
    (fSet 2 (fVar 3)))) 4096)
    (fRet (fVar 1)))))
noncomputable def m_passes : List D → Ro := runP b_passes 4
theorem ok_passes {f : Addr} {fd : FuncData} (F : Fun K "passes" "passes" s_passes f fd) (T : Txt K mg) (F_pass_end : DefP P w K mg base 3 "pass_end" 2 m_pass_end) : FnOk P w K mg base CX0 4 f fd ["deeds"] (spP K (fun _ => .none) 1 m_passes) :=
  fnP F sc_passes fun cdv A outer s H E hr =>
      (psd_cons (psd_setO 1 sc_passes.nd (ped_lst pad_nil))
      (psd_cons (psd_set 2 sc_passes.nd ped_int)
      (psd_cons (psd_while 4096 PassesOwn.never (ptd_cmp cmp_lt (ped_var 2) (ped_cb cb_len T.b_len bo_len (pad_cons (ped_var 0) pad_nil)) (nomark _)) (psd_cons (psd_set 3 sc_passes.nd (ped_call F_pass_end (hr.mono (by decide)) (pad_cons (ped_var 0) (pad_cons (ped_var 2) pad_nil))))
      (psd_cons (psd_app 1 (ped_slice (ped_var 0) (pod_some (ped_var 2)) (pod_some (ped_var 3))))
      (psd_one (psd_set 2 sc_passes.nd (ped_var 3))))))
      (psd_one (psd_ret (ped_var 1))))))
noncomputable def b_passesL : DM Fl :=
    (fSeqR (fSetW 1 (fLst fNil))
    (fSeqR (fSet 2 (fC (.int 0)))
    (fSeqR (whileD (fTest (fBin (fVar 2) (fCB (fCons (fVar 0) fNil) gLen) (gCmp lt))) (fSeq (fSet 3 (fCall 2 (fCons (fVar 0) (fCons (fVar 2) fNil)) m_pass_end))
    (fSeq (fAppW 1 (fSlice (fVar 0) (fPart (fVar 2)) (fPart (fVar 3))))
    (fSet 2 (fVar 3)))) 4096)
    (fRetW 1))))
noncomputable def m_passesL : List D → Option (List (List D)) := runL b_passesL 1 4
theorem ok_passesL {f : Addr} {fd : FuncData} (F : Fun K "passes" "passes" s_passes f fd) (T : Txt K mg) (F_pass_end : DefP P w K mg base 3 "pass_end" 2 m_pass_end) : FnOk P w K mg base CX0 4 f fd ["deeds"] (spL K 1 m_passesL) :=
  fnL 1 F sc_passes fun cdv A outer s H E hr =>
      (psr_cons (psd_setW 1 sc_passes.nd (ped_lst pad_nil))
      (psr_cons (psd_set 2 sc_passes.nd ped_int)
      (psr_cons (psd_while 4096 PassesOwn.never (ptd_cmp cmp_lt (ped_var 2) (ped_cb cb_len T.b_len bo_len (pad_cons (ped_var 0) pad_nil)) (nomark _)) (psd_cons (psd_set 3 sc_passes.nd (ped_call F_pass_end (hr.mono (by decide)) (pad_cons (ped_var 0) (pad_cons (ped_var 2) pad_nil))))
      (psd_cons (psd_appW 1 (ped_slice (ped_var 0) (pod_some (ped_var 2)) (pod_some (ped_var 3))))
      (psd_one (psd_set 2 sc_passes.nd (ped_var 3))))))
      (psr_ret 1))))
noncomputable abbrev s_makes_pass : Stmt := top 12
theorem sc_makes_pass : FnScope ["deeds", "first", "deed", "rises", "falls"] ["deeds"] (defScope s_makes_pass) := ⟨rfl, rfl, rfl, by decide +kernel, rfl, by decide +kernel, by decide +kernel⟩
noncomputable def b_makes_pass : DM Fl :=
    (fSeq (fIf (fTest (fBin (fVar 0) (fLst fNil) gEq)) (fRet (fC (.bl false))) fNext)
    (fSeq (fSet 1 (fBin (fVar 0) (fC (.int 0)) gIx))
    (fSeq (fIf (fTest (fBin (fBin (fVar 1) (fC (.int 0)) gIx) (fC (.str "move")) gEq)) (fSeq (fFor (fIt (fVar 0) gLstItems) (sName 2) (fIf (fOrT (fTest (fBin (fBin (fVar 2) (fC (.int 0)) gIx) (fC (.str "move")) gNe)) (fOrT (fTest (fBin (fBin (fVar 2) (fC (.int 1)) gIx) (fBin (fVar 1) (fC (.int 1)) gIx) gNe)) (fTest (fBin (fBin (fBin (fVar 2) (fC (.int 3)) gIx) (fBin (fVar 2) (fC (.int 2)) gIx) gSub) (fBin (fBin (fVar 1) (fC (.int 3)) gIx) (fBin (fVar 1) (fC (.int 2)) gIx) gSub) gNe)))) (fRet (fC (.bl false))) fNext))
    (fRet (fBin (fLenSet (fLC (fIt (fVar 0) gLstItems) (sName 0) (.ret true) (fBin (fVar 0) (fC (.int 2)) gIx) [none])) (fCB (fCons (fVar 0) fNil) gLen) gEq))) fNext)
    (fSeq (fFor (fIt (fVar 0) gLstItems) (sName 2) (fIf (fOrT (fTest (fBin (fBin (fVar 2) (fC (.int 0)) gIx) (fC (.str "move")) gEq)) (fTest (fBin (fBin (fVar 2) (fC (.int 3)) gIx) (fBin (fVar 1) (fC (.int 3)) gIx) gNe))) (fRet (fC (.bl false))) fNext))
    (fSeq (fSet 3 (fLC (fRng1 (fCons (fBin (fCB (fCons (fVar 0) fNil) gLen) (fC (.int 1)) gSub) fNil)) (sName 0) (.ret true) (fBin (fBin (fBin (fVar 1) (fVar 0) gIx) (fC (.int 2)) gIx) (fBin (fBin (fVar 1) (fBin (fVar 0) (fC (.int 1)) gAdd) gIx) (fC (.int 2)) gIx) (gCmp lt)) [none, some 0]))
    (fSeq (fSet 4 (fLC (fRng1 (fCons (fBin (fCB (fCons (fVar 0) fNil) gLen) (fC (.int 1)) gSub) fNil)) (sName 0) (.ret true) (fBin (fBin (fBin (fVar 1) (fVar 0) gIx) (fC (.int 2)) gIx) (fBin (fBin (fVar 1) (fBin (fVar 0) (fC (.int 1)) gAdd) gIx) (fC (.int 2)) gIx) (gCmp gt)) [none, some 0]))
    (fRet (fOrV (fCB (fCons (fVar 3) fNil) gAll) (fCB (fCons (fVar 4) fNil) gAll)))))))))
noncomputable def m_makes_pass : List D → Ro := runP b_makes_pass 5
theorem ok_makes_pass {f : Addr} {fd : FuncData} (F : Fun K "_law_makes_pass" "_law_makes_pass" s_makes_pass f fd) (T : Txt K mg)  : FnOk P w K mg base CX0 1 f fd ["deeds"] (spP K (fun _ => .none) 1 m_makes_pass) :=
  fnP F sc_makes_pass fun cdv A outer s H E hr =>
      (psd_cons (psd_if (ptd_cmp (cmp_eq hr.units) (ped_var 0) (ped_lst pad_nil) (nomark _)) (psd_one (psd_ret ped_bl)) psd_nil)
      (psd_cons (psd_set 1 sc_makes_pass.nd (ped_ix (ped_var 0) ped_int))
      (psd_cons (psd_if (ptd_cmp (cmp_eq hr.units) (ped_ix (ped_var 1) ped_int) ped_str (nomark _)) (psd_cons (psd_for PassesOwn.never rfl (pid_list (ped_var 0)) (pgd_name sc_makes_pass.nd) (psd_one (psd_if (ptd_bool (pwd_or (ptd_cmp (cmp_ne hr.units) (ped_ix (ped_var 2) ped_int) ped_str (nomark _)) (pwd_or (ptd_cmp (cmp_ne hr.units) (ped_ix (ped_var 2) ped_int) (ped_ix (ped_var 1) ped_int) (nomark _)) (pwd_or1 (ptd_cmp (cmp_ne hr.units) (ped_bin bin_sub (ped_ix (ped_var 2) ped_int) (ped_ix (ped_var 2) ped_int)) (ped_bin bin_sub (ped_ix (ped_var 1) ped_int) (ped_ix (ped_var 1) ped_int)) (nomark _)))))) (psd_one (psd_ret ped_bl)) psd_nil)))
      (psd_one (psd_ret (ped_cmp (cmp_eq hr.units) (ped_lenset (ped_lc (N := ["deed"]) (sel := [none]) ⟨rfl, rfl, rfl, rfl, rfl, rfl⟩ rfl (pid_list (ped_var 0)) (fun _ => pgd_name nd_1) (fun _ => ptsd_nil) (fun _ => (ped_ix (ped_var 0) ped_int))) rfl T.b_len bo_len T.b_set bo_set) (ped_cb cb_len T.b_len bo_len (pad_cons (ped_var 0) pad_nil)) (nomark _))))) psd_nil)
      (psd_cons (psd_for PassesOwn.never rfl (pid_list (ped_var 0)) (pgd_name sc_makes_pass.nd) (psd_one (psd_if (ptd_bool (pwd_or (ptd_cmp (cmp_eq hr.units) (ped_ix (ped_var 2) ped_int) ped_str (nomark _)) (pwd_or1 (ptd_cmp (cmp_ne hr.units) (ped_ix (ped_var 2) ped_int) (ped_ix (ped_var 1) ped_int) (nomark _))))) (psd_one (psd_ret ped_bl)) psd_nil)))
      (psd_cons (psd_lc 3 sc_makes_pass.nd (N := ["k", "deeds"]) (sel := [none, some 0]) ⟨rfl, rfl, rfl, rfl, rfl, rfl⟩ rfl (pid_rng1 T.b_range (pad_cons (ped_bin bin_sub (ped_cb cb_len T.b_len bo_len (pad_cons (ped_var 0) pad_nil)) ped_int) pad_nil)) (fun _ => pgd_name nd_0) (fun _ => ptsd_nil) (fun _ => (ped_cmp cmp_lt (ped_ix (ped_ix (ped_var 1) (ped_var 0)) ped_int) (ped_ix (ped_ix (ped_var 1) (ped_bin bin_add (ped_var 0) ped_int)) ped_int) (nomark _))))
      (psd_cons (psd_lc 4 sc_makes_pass.nd (N := ["k", "deeds"]) (sel := [none, some 0]) ⟨rfl, rfl, rfl, rfl, rfl, rfl⟩ rfl (pid_rng1 T.b_range (pad_cons (ped_bin bin_sub (ped_cb cb_len T.b_len bo_len (pad_cons (ped_var 0) pad_nil)) ped_int) pad_nil)) (fun _ => pgd_name nd_0) (fun _ => ptsd_nil) (fun _ => (ped_cmp cmp_gt (ped_ix (ped_ix (ped_var 1) (ped_var 0)) ped_int) (ped_ix (ped_ix (ped_var 1) (ped_bin bin_add (ped_var 0) ped_int)) ped_int) (nomark _))))
      (psd_one (psd_ret (ped_or (ped_cb (cb_all rfl) T.b_all bo_all (pad_cons (ped_var 3) pad_nil)) (ped_one (ped_cb (cb_all rfl) T.b_all bo_all (pad_cons (ped_var 4) pad_nil))))))))))))
noncomputable abbrev s_law : Stmt := top 13
theorem sc_law : FnScope ["script", "deeds", "handed", "found", "joined", "one", "many"] ["script"] (defScope s_law) := ⟨rfl, rfl, rfl, by decide +kernel, rfl, by decide +kernel, by decide +kernel⟩
noncomputable def b_law : DM Fl :=
    (fSeq (fSet 1 (fCall 2 (fCons (fVar 0) (fCons (fBin (fCall 2 (fCons (fVar 0) (fCons (fC (.int 0)) fNil)) m_cell_at) (fC (.int 61)) gMod) fNil)) m_some_deeds))
    (fSeq (fSet 2 (fCB (fCons (fVar 1) fNil) gList))
    (fSeq (fCallL 3 1 (fCons (fVar 2) fNil) m_passesL)
    (fSeq (fLendN 3 [0, 1, 2, 3] (fIf (fOrT (fTest (fBin (fVar 2) (fVar 1) gNe)) (fNotT (fTest (fUn (fVar 3) (gIs "list"))))) (fRet (fC (.bl false))) fNext))
    (fSeq (fSetO 4 (fLst fNil))
    (fSeq (fLendN 3 [0, 1, 2, 3] (fFor (fIt (fVar 3) gLstItems) (sName 5) (fSeq (fIf (fOrT (fNotT (fTest (fUn (fVar 5) (gIs "list")))) (fNotT (fTest (fCB (fCons (fLC (fIt (fVar 5) gLstItems) (sName 0) (.ret true) (fUn (fVar 0) (gIs "tuple")) [none]) fNil) gAll)))) (fRet (fC (.bl false))) fNext)
    (fSeq (fIf (fNotT (fTest (fCall 1 (fCons (fVar 5) fNil) m_makes_pass))) (fRet (fC (.bl false))) fNext)
    (fSetO 4 (fBin (fVar 4) (fVar 5) gAdd))))))
    (fSeq (fLendN 3 [0, 1, 2, 3] (fSet 6 (fCB (fCons (fVar 3) fNil) gLen)))
    (fSeq (fSpoil 3 5 (.str "x"))
    (fSeq (fSpoilA 3)
    (fSeq (fIf (fOrT (fTest (fBin (fCall 1 (fCons (fLst fNil) fNil) m_passes) (fLst fNil) gNe)) (fTest (fBin (fVar 2) (fVar 1) gNe))) (fRet (fC (.bl false))) fNext)
    (fRet (fAndV (fBin (fVar 4) (fVar 1) gEq) (fBin (fCB (fCons (fCall 1 (fCons (fVar 2) fNil) m_passes) fNil) gLen) (fVar 6) gEq)))))))))))))
noncomputable def m_law : List D → Ro := runP b_law 7
theorem ok_law {f : Addr} {fd : FuncData} (F : Fun K "law" "law" s_law f fd) (T : Txt K mg) (F_some_deeds : DefP P w K mg base 4 "_law_some_deeds" 2 m_some_deeds) (F_passes : DefP P w K mg base 4 "passes" 1 m_passes) (F_passesL : DefL P w K mg base 4 "passes" 1 m_passesL) (F_cell_at : DefP P w K mg base 1 "_law_cell_at" 2 m_cell_at) (F_makes_pass : DefP P w K mg base 1 "_law_makes_pass" 1 m_makes_pass) : FnOk P w K mg base CX0 5 f fd ["script"] (spP K (fun _ => .none) 1 m_law) :=
  fnP F sc_law fun cdv A outer s H E hr =>
      (psd_cons (psd_set 1 sc_law.nd (ped_call F_some_deeds (hr.mono (by decide)) (pad_cons (ped_var 0) (pad_cons (ped_bin bin_mod (ped_call F_cell_at (hr.mono (by decide)) (pad_cons (ped_var 0) (pad_cons ped_int pad_nil))) ped_int) pad_nil))))
      (psd_cons (psd_set 2 sc_law.nd (ped_cty cb_list T.b_list bo_list (pad_cons (ped_var 1) pad_nil)))
      (psd_cons (psd_callL 3 sc_law.nd F_passesL (hr.mono (by decide)) (pad_cons (ped_var 2) pad_nil))
      (psd_cons (psd_lendN 3 [0, 1, 2, 3] (psd_if (ptd_bool (pwd_or (ptd_cmp (cmp_ne hr.units) (ped_var 2) (ped_var 1) (nomark _)) (pwd_or1 (ptd_not (ptd_val (ped_isi T.b_isinstance T.b_list bo_list (ped_var 3))))))) (psd_one (psd_ret ped_bl)) psd_nil))
      (psd_cons (psd_setO 4 sc_law.nd (ped_lst pad_nil))
      (psd_cons (psd_lendN 3 [0, 1, 2, 3] (psd_for PassesOwn.never rfl (pid_list (ped_var 3)) (pgd_name sc_law.nd) (psd_cons (psd_if (ptd_bool (pwd_or (ptd_not (ptd_val (ped_isi T.b_isinstance T.b_list bo_list (ped_var 5)))) (pwd_or1 (ptd_not (ptd_val (ped_cb (cb_all rfl) T.b_all bo_all (pad_cons (ped_lc (N := ["deed"]) (sel := [none]) ⟨rfl, rfl, rfl, rfl, rfl, rfl⟩ rfl (pid_list (ped_var 5)) (fun _ => pgd_name nd_1) (fun _ => ptsd_nil) (fun _ => (ped_isi T.b_isinstance T.b_tuple bo_tuple (ped_var 0)))) pad_nil))))))) (psd_one (psd_ret ped_bl)) psd_nil)
      (psd_cons (psd_if (ptd_not (ptd_val (ped_call F_makes_pass (hr.mono (by decide)) (pad_cons (ped_var 5) pad_nil)))) (psd_one (psd_ret ped_bl)) psd_nil)
      (psd_one (psd_setO 4 sc_law.nd (ped_bin bin_add (ped_var 4) (ped_var 5))))))))
      (psd_cons (psd_lendN 3 [0, 1, 2, 3] (psd_set 6 sc_law.nd (ped_cb cb_len T.b_len bo_len (pad_cons (ped_var 3) pad_nil))))
      (psd_cons (psd_spoil 3 5 PassesOwn.never rfl sc_law.nd)
      (psd_cons (psd_spoilA 3)
      (psd_cons (psd_if (ptd_bool (pwd_or (ptd_cmp (cmp_ne hr.units) (ped_call F_passes (hr.mono (by decide)) (pad_cons (ped_lst pad_nil) pad_nil)) (ped_lst pad_nil) (nomark _)) (pwd_or1 (ptd_cmp (cmp_ne hr.units) (ped_var 2) (ped_var 1) (nomark _))))) (psd_one (psd_ret ped_bl)) psd_nil)
      (psd_one (psd_ret (ped_and (ped_cmp (cmp_eq hr.units) (ped_var 4) (ped_var 1) (nomark _)) (ped_one (ped_cmp (cmp_eq hr.units) (ped_cb cb_len T.b_len bo_len (pad_cons (ped_call F_passes (hr.mono (by decide)) (pad_cons (ped_var 2) pad_nil)) pad_nil)) (ped_var 6) (nomark _))))))))))))))))
end
end Lw
local macro_rules | `(tactic| walk_at "ev1") => `(tactic| first
  | with_reducible exact DL.ev_c | with_reducible exact DL.ev_nil | with_reducible exact DL.ev_next | with_reducible exact DL.ev_nopart
  | ((with_reducible apply DL.ev_var); rfl) | ((with_reducible apply DL.ev_slot); rfl)
  | ((with_reducible change DL.res _ _ = _); rfl) | ((with_reducible change DL.norm _ = _); rfl) | ((with_reducible change DL.valsOf _ = _); rfl) | ((with_reducible change DL.resAll _ _ = _); rfl)
  | with_reducible assumption
  | ((with_reducible change DL.loopD _ _ _ _ = _); assumption) | ((with_reducible change DL.whileD _ _ _ _ = _); assumption) | ((with_reducible change DL.compD _ _ _ _ _ _ = _); assumption)
  | with_reducible apply DL.ev_bin | with_reducible apply DL.ev_cons | with_reducible apply DL.ev_un | with_reducible apply DL.ev_cb
  | with_reducible apply DL.ev_seqK | with_reducible apply DL.seqK_nx | with_reducible exact DL.seqK_rt | with_reducible exact DL.seqK_rto | with_reducible apply DL.ev_set | with_reducible apply DL.ev_setO | with_reducible apply DL.ev_tup | with_reducible apply DL.ev_lst
  | with_reducible apply DL.ev_test | with_reducible apply DL.ev_lc | with_reducible apply DL.ev_rng1 | with_reducible apply DL.ev_rng2 | with_reducible apply DL.ev_it | with_reducible apply DL.ev_enum | ((with_reducible apply DL.ev_rev); rfl) | ((with_reducible apply DL.ev_extend); rfl) | with_reducible apply DL.ev_for
  | with_reducible apply DL.ev_if | with_reducible apply DL.ev_and | with_reducible apply DL.ev_or | with_reducible apply DL.ev_ifE | with_reducible apply DL.ev_andTg | with_reducible apply DL.ev_orTg
  | ((with_reducible apply DL.ev_iteT); first | with_reducible assumption | decide | with_unfolding_all rfl) | ((with_reducible apply DL.ev_iteF); first | with_reducible assumption | decide | with_unfolding_all rfl)
  | with_reducible apply DL.ev_bm | with_reducible apply DL.ev_slice | with_reducible apply DL.ev_part | with_reducible apply DL.ev_not | with_reducible apply DL.ev_notT
  | ((with_reducible apply DL.ev_app); rfl)
  | with_reducible apply DL.ev_run | with_reducible apply DL.ev_runO | with_reducible apply DL.ev_retK | with_reducible exact DL.retK_val | with_reducible exact DL.retK_own | ((with_reducible apply DL.retK_slot); rfl) | ((with_reducible change DL.valsY _ _ _ = _); rfl) | with_reducible exact DL.rnRs_ok | with_reducible exact DL.rnRs_own | with_reducible exact DL.roRs_ok | with_reducible exact DL.roRs_own
  | with_reducible apply DL.og_addS | with_reducible apply DL.og_addL | with_reducible exact DL.og_addI | with_reducible apply DL.og_mul | with_reducible apply DL.og_div | with_reducible apply DL.og_mod
  | with_reducible exact DL.og_ixL0 | with_reducible apply DL.og_join | with_reducible apply DL.og_lenS | with_reducible exact DL.og_slL | with_reducible apply DL.og_strI | with_reducible apply DL.og_eq | with_reducible apply DL.og_ne
  | with_reducible apply DL.ev_callG | with_reducible apply DL.ev_callN
  | ((with_reducible change DL.gIs _ _ = _); first | with_reducible exact DL.gis_int_non | with_reducible exact DL.gis_int_bl | with_reducible exact DL.gis_int_int | with_reducible exact DL.gis_int_str | with_reducible exact DL.gis_int_tup | with_reducible exact DL.gis_int_lst | with_reducible exact DL.gis_bool_non | with_reducible exact DL.gis_bool_bl | with_reducible exact DL.gis_bool_int | with_reducible exact DL.gis_bool_str | with_reducible exact DL.gis_bool_tup | with_reducible exact DL.gis_bool_lst | with_reducible exact DL.gis_str_non | with_reducible exact DL.gis_str_bl | with_reducible exact DL.gis_str_int | with_reducible exact DL.gis_str_str | with_reducible exact DL.gis_str_tup | with_reducible exact DL.gis_str_lst | with_reducible exact DL.gis_list_non | with_reducible exact DL.gis_list_bl | with_reducible exact DL.gis_list_int | with_reducible exact DL.gis_list_str | with_reducible exact DL.gis_list_tup | with_reducible exact DL.gis_list_lst | with_reducible exact DL.gis_tuple_non | with_reducible exact DL.gis_tuple_bl | with_reducible exact DL.gis_tuple_int | with_reducible exact DL.gis_tuple_str | with_reducible exact DL.gis_tuple_tup | with_reducible exact DL.gis_tuple_lst)
  | rfl
  | ((with_reducible apply DL.og_cmulL) <;> omega) | ((with_reducible apply DL.og_cmulR) <;> omega) | ((with_reducible apply DL.og_small) <;> omega)
  | exact Nat.le_of_ble_eq_true rfl
  | (unfold PySem.sizeLine; omega)
  | assumption)
local macro_rules | `(tactic| walk_at "ev") => `(tactic| repeat walk_at "ev1")
namespace Lw
open PySem L2 DL
noncomputable def cellv (ns : List Int) (k : Int) : Int := if k < ns.length then ns.getD k.toNat 0 else 0
theorem m_cell (ns : List Int) (k : Int) (hk : 0 ≤ k) : m_cell_at [.scr ns, .int k] = .ok (.int (cellv ns k)) := by
  unfold m_cell_at b_cell_at cellv
  by_cases h : k < ns.length
  · have e : gIx (.scr ns) (.int k) = some (.val (.int (ns.getD k.toNat 0))) := by
      show (atI ns k).map _ = _
      unfold atI ixN
      rw [if_pos hk, if_pos h]
      have : k.toNat < ns.length := by omega
      show (ns[k.toNat]?).map _ = _
      rw [List.getD_eq_getElem?_getD, List.getElem?_eq_getElem this]; rfl
    rw [if_pos h]
    have hb : lt k ns.length = true := decide_eq_true h
    walk_at "ev"
  · rw [if_neg h]
    have hb : lt k ns.length = false := decide_eq_false h
    walk_at "ev"
noncomputable def mixv (c k : Int) : Int :=
  let s1 := (c + 7919 * (k + 3)) % 2147483647
  let s2 := (s1 * s1 + 104729 * k + 5) % 2147483629
  s2 * s2 % 2147483587
theorem m_mixv (c k : Int) : m_mix [.int c, .int k] = .ok (.int (mixv c k)) := by
  unfold m_mix b_mix mixv
  walk_at "ev"
noncomputable def yarns : List Str := ["a", "b", "c", "d", "e", "f"]
theorem ix_yarn (x : Int) : ∃ y : Str, gIx (.str "abcdef") (.int (x % 6)) = some (.val (.str y)) ∧ y ∈ yarns := by
  have : x % 6 = 0 ∨ x % 6 = 1 ∨ x % 6 = 2 ∨ x % 6 = 3 ∨ x % 6 = 4 ∨ x % 6 = 5 := by omega
  rcases this with h | h | h | h | h | h <;> rw [h]
  · exact ⟨"a", by kernel_rfl, by decide +kernel⟩
  · exact ⟨"b", by kernel_rfl, by decide +kernel⟩
  · exact ⟨"c", by kernel_rfl, by decide +kernel⟩
  · exact ⟨"d", by kernel_rfl, by decide +kernel⟩
  · exact ⟨"e", by kernel_rfl, by decide +kernel⟩
  · exact ⟨"f", by kernel_rfl, by decide +kernel⟩
theorem ev_orB {c c1 : DM Bool} {δ : DSt} {b b1 : Bool} (h : c δ = .ok b δ) (h1 : c1 δ = .ok b1 δ) : fOrT c c1 δ = .ok (b || b1) δ := by
  unfold fOrT DM.bd; simp only [h]; cases b <;> simp [h1, DM.ret]
end Lw
namespace Lw
open PySem L2 DL
inductive Dd where
  | ky (k r : Str) (a : Int) (y : Str)
  | mv (r : Str) (a t : Int)
noncomputable def Dd.D : Dd → D
  | .ky k r a y => .tup [.str k, .str r, .int a, .str y]
  | .mv r a t => .tup [.str "move", .str r, .int a, .int t]
noncomputable def Dd.at : Dd → Int
  | .ky _ _ a _ => a
  | .mv _ a _ => a
noncomputable def RowOk (r : Str) : Prop := r = Str.ofString "f" ∨ r = Str.ofString "b"
noncomputable def Dd.ok : Dd → Prop
  | .ky k r a y => (k = Str.ofString "knit" ∨ k = Str.ofString "tuck") ∧ RowOk r ∧ 0 ≤ a ∧ a ≤ 15 ∧ y ∈ yarns
  | .mv r a t => RowOk r ∧ 0 ≤ a ∧ a ≤ 15 ∧ 0 ≤ t ∧ t ≤ 15
theorem ix_fb (x : Int) : ∃ r : Str, gIx (.str "fb") (.int (x % 2)) = some (.val (.str r)) ∧ RowOk r := by
  have : x % 2 = 0 ∨ x % 2 = 1 := by omega
  rcases this with h | h <;> rw [h]
  · exact ⟨"f", by kernel_rfl, .inl rfl⟩
  · exact ⟨"b", by kernel_rfl, .inr rfl⟩
theorem ix_kt (x : Int) : ∃ k : Str, gIx (.lst [.str "knit", .str "tuck"]) (.int (x % 2)) = some (.val (.str k)) ∧ (k = Str.ofString "knit" ∨ k = Str.ofString "tuck") := by
  have : x % 2 = 0 ∨ x % 2 = 1 := by omega
  rcases this with h | h <;> rw [h]
  · exact ⟨"knit", rfl, .inl rfl⟩
  · exact ⟨"tuck", rfl, .inr rfl⟩
theorem ix_six (x : Int) : ∃ o : Int, gIx (.lst [.int (-2), .int (-1), .int 0, .int 0, .int 1, .int 2]) (.int (x % 6)) = some (.val (.int o)) := by
  have : x % 6 = 0 ∨ x % 6 = 1 ∨ x % 6 = 2 ∨ x % 6 = 3 ∨ x % 6 = 4 ∨ x % 6 = 5 := by omega
  rcases this with h | h | h | h | h | h <;> rw [h]
  · exact ⟨-2, rfl⟩
  · exact ⟨-1, rfl⟩
  · exact ⟨0, rfl⟩
  · exact ⟨0, rfl⟩
  · exact ⟨1, rfl⟩
  · exact ⟨2, rfl⟩
theorem into_row (t : Int) : 0 ≤ imax 0 (imin 15 t) ∧ imax 0 (imin 15 t) ≤ 15 := by
  unfold imax imin
  split <;> split <;> omega
theorem eq_move {k : Str} (h : k = Str.ofString "knit" ∨ k = Str.ofString "tuck") : gEq (.str k) (.str (Str.ofString "move")) = some (.val (.bl false)) := by
  rcases h with rfl | rfl
  · exact og_eq (by decide +kernel)
  · exact og_eq (by decide +kernel)
theorem eq_move' : gEq (.str (Str.ofString "move")) (.str (Str.ofString "move")) = some (.val (.bl true)) := og_eq (deq_self 8 _ rfl)
end Lw
namespace Lw
open PySem L2 DL
theorem any_deed_ok (cell : Int) : ∃ d : Dd, d.ok ∧ m_any_deed [.int cell] = .ok d.D := by
  have c1 := m_mixv cell 1
  have c2 := m_mixv cell 2
  have c3 := m_mixv cell 3
  have c4 := m_mixv cell 4
  have c5 := m_mixv cell 5
  have c6 := m_mixv cell 6
  have c9 := m_mixv cell 9
  have c10 := m_mixv cell 10
  obtain ⟨r, gr, hr⟩ := ix_fb (mixv cell 1 / 7)
  obtain ⟨k, gk, hk⟩ := ix_kt (mixv cell 5 / 7)
  obtain ⟨y, gy, hy⟩ := ix_yarn (mixv cell 4 / 7)
  obtain ⟨o, go⟩ := ix_six (mixv cell 6 / 7)
  have q1 : gEq (.int (mixv cell 3 / 7 % 2)) (.int 0) = some (.val (.bl (decide (mixv cell 3 / 7 % 2 = 0)))) := og_eq rfl
  have q2 : gEq (.int (mixv cell 9 / 7 % 3)) (.int 0) = some (.val (.bl (decide (mixv cell 9 / 7 % 3 = 0)))) := og_eq rfl
  have gmin : ∀ t : Int, gMin [.int 15, .int t] = some (.val (.int (imin 15 t))) := fun t => rfl
  have gmax : ∀ t : Int, gMax [.int 0, .int t] = some (.val (.int (imax 0 t))) := fun t => rfl
  have n2 : gNeg (.int 2) = some (.val (.int (-2))) := rfl
  have n1 : gNeg (.int 1) = some (.val (.int (-1))) := rfl
  unfold m_any_deed b_any_deed
  by_cases h1 : mixv cell 3 / 7 % 2 = 0
  · have d1 : decide (mixv cell 3 / 7 % 2 = 0) = true := decide_eq_true h1
    refine ⟨.ky k r (mixv cell 2 / 7 % 16) y, ⟨hk, hr, by omega, by omega, hy⟩, ?_⟩
    change _ = Ro.ok (.tup [.str k, .str r, .int (mixv cell 2 / 7 % 16), .str y])
    walk_at "ev"
  · have d1 : decide (mixv cell 3 / 7 % 2 = 0) = false := decide_eq_false h1
    by_cases h2 : mixv cell 9 / 7 % 3 = 0
    · have d2 : decide (mixv cell 9 / 7 % 3 = 0) = true := decide_eq_true h2
      refine ⟨.mv r (mixv cell 2 / 7 % 16) (imax 0 (imin 15 (mixv cell 10 / 7 % 16))), ⟨hr, by omega, by omega, (into_row _).1, (into_row _).2⟩, ?_⟩
      change _ = Ro.ok (.tup [.str "move", .str r, .int (mixv cell 2 / 7 % 16), .int (imax 0 (imin 15 (mixv cell 10 / 7 % 16)))])
      walk_at "ev"
    · have d2 : decide (mixv cell 9 / 7 % 3 = 0) = false := decide_eq_false h2
      refine ⟨.mv r (mixv cell 2 / 7 % 16) (imax 0 (imin 15 (mixv cell 2 / 7 % 16 + o))), ⟨hr, by omega, by omega, (into_row _).1, (into_row _).2⟩, ?_⟩
      change _ = Ro.ok (.tup [.str "move", .str r, .int (mixv cell 2 / 7 % 16), .int (imax 0 (imin 15 (mixv cell 2 / 7 % 16 + o)))])
      walk_at "ev"
end Lw
namespace DL
open PySem L2
theorem ev_in15 {δ : DSt} {i : Nat} {v : Int} (h : δ[i]? = some (.sh (.int v))) : fTest (fChain (fC (.int 0)) (fVar i) (fC (.int 15)) (gCmp le) (gCmp le)) δ = .ok (decide (0 ≤ v) && decide (v ≤ 15)) δ := by
  have hv : fVar i δ = .ok (.val (.int v)) δ := ev_var h
  have q1 : gCmp le (.int 0) (.int v) = some (.val (.bl (decide (0 ≤ v)))) := rfl
  have q2 : gCmp le (.int v) (.int 15) = some (.val (.bl (decide (v ≤ 15)))) := rfl
  refine ev_test (a := .val (.bl (decide (0 ≤ v) && decide (v ≤ 15)))) ?_ rfl
  unfold fChain fN fC DM.bd DM.ret
  simp only [hv, norm, res]
  rw [q1]
  cases decide (0 ≤ v) with
  | false => rfl
  | true =>
    simp only [q2]
    rfl
end DL
namespace Lw
open PySem L2 DL
local macro_rules | `(tactic| walk_at "ev1") => `(tactic| ((with_reducible apply DL.ev_in15); rfl))
theorem fb_index {r : Str} (h : RowOk r) : ∃ (j : Int) (s : Str), gIndex (.str "fb") [.str r] = some (.val (.int j)) ∧ gIx (.str "bf") (.int j) = some (.val (.str s)) ∧ RowOk s := by
  rcases h with rfl | rfl
  · exact ⟨0, "b", by kernel_rfl, by kernel_rfl, .inr rfl⟩
  · exact ⟨1, "f", by kernel_rfl, by kernel_rfl, .inl rfl⟩
theorem next_deed_ok (d : Dd) (hd : d.ok) (cell : Int) : ∃ d' : Dd, d'.ok ∧ m_next_deed [d.D, .int cell] = .ok d'.D := by
  have c1 := m_mixv cell 1
  have c5 := m_mixv cell 5
  have c7 := m_mixv cell 7
  have c11 := m_mixv cell 11
  have c12 := m_mixv cell 12
  obtain ⟨e0, he0, g0⟩ := any_deed_ok cell
  obtain ⟨r1, gr, hr1⟩ := ix_fb (mixv cell 1 / 7)
  obtain ⟨k1, gk, hk1⟩ := ix_kt (mixv cell 5 / 7)
  have q11 : gEq (.int (mixv cell 11 / 7 % 8)) (.int 0) = some (.val (.bl (decide (mixv cell 11 / 7 % 8 = 0)))) := og_eq rfl
  have q12 : gEq (.int (mixv cell 12 / 7 % 9)) (.int 0) = some (.val (.bl (decide (mixv cell 12 / 7 % 9 = 0)))) := og_eq rfl
  cases d with
  | ky k r a y =>
    obtain ⟨hk, hr, ha0, ha1, hy⟩ := hd
    have i0 : gIx (.tup [.str k, .str r, .int a, .str y]) (.int 0) = some (.val (.str k)) := rfl
    have i2 : gIx (.tup [.str k, .str r, .int a, .str y]) (.int 2) = some (.val (.int a)) := rfl
    have i3 : gIx (.tup [.str k, .str r, .int a, .str y]) (.int 3) = some (.val (.str y)) := rfl
    have m1 := eq_move hk
    change ∃ d' : Dd, d'.ok ∧ m_next_deed [.tup [.str k, .str r, .int a, .str y], .int cell] = .ok d'.D
    unfold m_next_deed b_next_deed
    cases t1 : (!(decide (0 ≤ a + (1 - 2 * (mixv cell 7 / 7 % 4 / 3))) && decide (a + (1 - 2 * (mixv cell 7 / 7 % 4 / 3)) ≤ 15))) with
    | true =>
      exact ⟨e0, he0, by walk_at "ev"⟩
    | false =>
      have t2 : 0 ≤ a + (1 - 2 * (mixv cell 7 / 7 % 4 / 3)) ∧ a + (1 - 2 * (mixv cell 7 / 7 % 4 / 3)) ≤ 15 := by simpa using t1
      refine ⟨.ky k1 r1 (a + (1 - 2 * (mixv cell 7 / 7 % 4 / 3))) y, ⟨hk1, hr1, t2.1, t2.2, hy⟩, ?_⟩
      change _ = Ro.ok (.tup [.str k1, .str r1, .int (a + (1 - 2 * (mixv cell 7 / 7 % 4 / 3))), .str y])
      walk_at "ev"
  | mv r a t =>
    obtain ⟨hr, ha0, ha1, ht0, ht1⟩ := hd
    obtain ⟨j, s, gj, gs, hs⟩ := fb_index hr
    have i0 : gIx (.tup [.str "move", .str r, .int a, .int t]) (.int 0) = some (.val (.str "move")) := rfl
    have i1 : gIx (.tup [.str "move", .str r, .int a, .int t]) (.int 1) = some (.val (.str r)) := rfl
    have i2 : gIx (.tup [.str "move", .str r, .int a, .int t]) (.int 2) = some (.val (.int a)) := rfl
    have i3 : gIx (.tup [.str "move", .str r, .int a, .int t]) (.int 3) = some (.val (.int t)) := rfl
    have m1 := eq_move'
    change ∃ d' : Dd, d'.ok ∧ m_next_deed [.tup [.str "move", .str r, .int a, .int t], .int cell] = .ok d'.D
    unfold m_next_deed b_next_deed
    cases t1 : (!(decide (0 ≤ a + (1 - 2 * (mixv cell 7 / 7 % 4 / 3))) && decide (a + (1 - 2 * (mixv cell 7 / 7 % 4 / 3)) ≤ 15))) with
    | true =>
      exact ⟨e0, he0, by walk_at "ev"⟩
    | false =>
      have t2 : 0 ≤ a + (1 - 2 * (mixv cell 7 / 7 % 4 / 3)) ∧ a + (1 - 2 * (mixv cell 7 / 7 % 4 / 3)) ≤ 15 := by simpa using t1
      generalize hA : a + (1 - 2 * (mixv cell 7 / 7 % 4 / 3)) = A at t1 t2
      have gA : gAdd (.int a) (.int (1 - 2 * (mixv cell 7 / 7 % 4 / 3))) = some (.val (.int A)) := by rw [← hA]; rfl
      have fin : ∀ T : Int, ∃ d' : Dd, d'.ok ∧ ∃ δ, (fSeq (fIf (fNotT (fTest (fChain (fC (.int 0)) (fVar 4) (fC (.int 15)) (gCmp le) (gCmp le)))) (fRet (fCall 1 (fCons (fVar 1) fNil) m_any_deed)) fNext)
          (fSeq (fIf (fTest (fBin (fBin (fBin (fCall 2 (fCons (fVar 1) (fCons (fC (.int 12)) fNil)) m_mix) (fC (.int 7)) gDiv) (fC (.int 9)) gMod) (fC (.int 0)) gEq)) (fRet (fTup (fCons (fC (.str "move")) (fCons (fBin (fC (.str "bf")) (fBM (fC (.str "fb")) (fCons (fBin (fVar 0) (fC (.int 1)) gIx) fNil) gIndex) gIx) (fCons (fVar 3) (fCons (fVar 4) fNil)))))) fNext)
          (fRet (fTup (fCons (fC (.str "move")) (fCons (fBin (fVar 0) (fC (.int 1)) gIx) (fCons (fVar 3) (fCons (fVar 4) fNil)))))))) [.sh (.tup [.str "move", .str r, .int a, .int t]), .sh (.int cell), .sh (.int (1 - 2 * (mixv cell 7 / 7 % 4 / 3))), .sh (.int A), .sh (.int T)] = .ok (.rt d'.D) δ := by
        intro T
        cases u1 : (!(decide (0 ≤ T) && decide (T ≤ 15))) with
        | true => exact ⟨e0, he0, [.sh (.tup [.str "move", .str r, .int a, .int t]), .sh (.int cell), .sh (.int (1 - 2 * (mixv cell 7 / 7 % 4 / 3))), .sh (.int A), .sh (.int T)], by walk_at "ev"⟩
        | false =>
          have u2 : 0 ≤ T ∧ T ≤ 15 := by simpa using u1
          by_cases h12 : mixv cell 12 / 7 % 9 = 0
          · have d12 : decide (mixv cell 12 / 7 % 9 = 0) = true := decide_eq_true h12
            refine ⟨.mv s A T, ⟨hs, t2.1, t2.2, u2.1, u2.2⟩, [.sh (.tup [.str "move", .str r, .int a, .int t]), .sh (.int cell), .sh (.int (1 - 2 * (mixv cell 7 / 7 % 4 / 3))), .sh (.int A), .sh (.int T)], ?_⟩
            change _ = Rs.ok (Fl.rt (.tup [.str "move", .str s, .int A, .int T])) _
            walk_at "ev"
          · have d12 : decide (mixv cell 12 / 7 % 9 = 0) = false := decide_eq_false h12
            refine ⟨.mv r A T, ⟨hr, t2.1, t2.2, u2.1, u2.2⟩, [.sh (.tup [.str "move", .str r, .int a, .int t]), .sh (.int cell), .sh (.int (1 - 2 * (mixv cell 7 / 7 % 4 / 3))), .sh (.int A), .sh (.int T)], ?_⟩
            change _ = Rs.ok (Fl.rt (.tup [.str "move", .str r, .int A, .int T])) _
            walk_at "ev"
      by_cases h11 : mixv cell 11 / 7 % 8 = 0
      · have d11 : decide (mixv cell 11 / 7 % 8 = 0) = true := decide_eq_true h11
        obtain ⟨d', ok', δ, e⟩ := fin (A - t + a)
        refine ⟨d', ok', ?_⟩
        apply ev_run
        apply ev_seqK
        · walk_at "ev"
        apply seqK_nx
        apply ev_seqK
        · walk_at "ev"
        apply seqK_nx
        apply ev_seqK
        · walk_at "ev"
        apply seqK_nx
        apply ev_seqK
        · apply ev_if
          · exact ev_test (ev_bin (ev_bin (ev_var rfl) ev_c rfl rfl i0) ev_c rfl rfl m1) rfl
          apply ev_iteT rfl
          apply ev_seqK
          · walk_at "ev"
          apply seqK_nx
          apply ev_seqK
          · walk_at "ev"
          apply seqK_nx
          exact e
        exact seqK_rt
      · have d11 : decide (mixv cell 11 / 7 % 8 = 0) = false := decide_eq_false h11
        obtain ⟨d', ok', δ, e⟩ := fin (t + (1 - 2 * (mixv cell 7 / 7 % 4 / 3)))
        refine ⟨d', ok', ?_⟩
        apply ev_run
        apply ev_seqK
        · walk_at "ev"
        apply seqK_nx
        apply ev_seqK
        · walk_at "ev"
        apply seqK_nx
        apply ev_seqK
        · walk_at "ev"
        apply seqK_nx
        apply ev_seqK
        · apply ev_if
          · exact ev_test (ev_bin (ev_bin (ev_var rfl) ev_c rfl rfl i0) ev_c rfl rfl m1) rfl
          apply ev_iteT rfl
          apply ev_seqK
          · walk_at "ev"
          apply seqK_nx
          apply ev_seqK
          · walk_at "ev"
          apply seqK_nx
          exact e
        exact seqK_rt
end Lw
namespace Lw
open PySem L2 DL
noncomputable def dlD (ds : List Dd) : List D := ds.map Dd.D
theorem dlD_len (ds : List Dd) : (dlD ds).length = ds.length := List.length_map _
theorem dlD_app (a b : List Dd) : dlD (a ++ b) = dlD a ++ dlD b := List.map_append
theorem ix_last (ds : List Dd) (l : Dd) : gIx (.lst (dlD (ds ++ [l]))) (.int (-1)) = some (.val l.D) := by
  refine og_ixL ?_
  have hl : (dlD (ds ++ [l])).length = ds.length + 1 := by rw [dlD_len, List.length_append, List.length_singleton]
  have hx : ixN (dlD (ds ++ [l])).length (-1) = some ds.length := by
    unfold ixN
    rw [hl, if_neg (by omega), if_pos (by omega)]
    congr 1
    omega
  unfold atI
  rw [hx]
  show (dlD (ds ++ [l]))[ds.length]? = _
  unfold dlD
  rw [List.getElem?_map, List.getElem?_append_right (Nat.le_refl _), Nat.sub_self]
  rfl
noncomputable def bSD : DM Fl := (fSeq (fSet 4 (fBin (fBin (fCall 2 (fCons (fVar 0) (fCons (fBin (fC (.int 2)) (fVar 3) gAdd) fNil)) m_cell_at) (fC (.int 1000003)) gMod) (fBin (fC (.int 5003)) (fVar 3) gMul) gAdd))
    (fSeq (fSet 5 (fBin (fBin (fCall 2 (fCons (fVar 4) (fCons (fC (.int 8)) fNil)) m_mix) (fC (.int 7)) gDiv) (fC (.int 12)) gMod))
    (fIf (fOrT (fTest (fBin (fVar 3) (fC (.int 0)) gEq)) (fTest (fBin (fVar 5) (fC (.int 2)) (gCmp lt)))) (fApp' 2 (fCall 1 (fCons (fVar 4) fNil) m_any_deed)) (fIf (fTest (fBin (fVar 5) (fC (.int 2)) gEq)) (fApp' 2 (fBin (fVar 2) (fUn (fC (.int 1)) gNeg) gIx)) (fApp' 2 (fCall 2 (fCons (fBin (fVar 2) (fUn (fC (.int 1)) gNeg) gIx) (fCons (fVar 4) fNil)) m_next_deed))))))
theorem sd_turn (ns : List Int) (p1 b4 b5 : Sl) (ds : List Dd) (hd : ∀ d ∈ ds, d.ok) (hl : ds.length ≤ 1000) : ∃ (d : Dd) (x4 x5 : Sl), d.ok ∧
    bSD [.sh (.scr ns), p1, .ow (dlD ds), .sh (.int (ds.length : Int)), b4, b5] = .ok .nx [.sh (.scr ns), p1, .ow (dlD (ds ++ [d])), .sh (.int (ds.length : Int)), x4, x5] := by
  have c1 := m_cell ns (2 + (ds.length : Int)) (by omega)
  have gm : gMul (.int 5003) (.int (ds.length : Int)) = some (.val (.int (5003 * (ds.length : Int)))) := og_mul (og_cmulR (by omega) (by omega))
  generalize hc : cellv ns (2 + (ds.length : Int)) % 1000003 + 5003 * (ds.length : Int) = cell
  have ga : gAdd (.int (cellv ns (2 + (ds.length : Int)) % 1000003)) (.int (5003 * (ds.length : Int))) = some (.val (.int cell)) := by rw [← hc]; rfl
  have c8 := m_mixv cell 8
  have q0 : gEq (.int (ds.length : Int)) (.int 0) = some (.val (.bl (decide ((ds.length : Int) = 0)))) := og_eq rfl
  have q1 : gCmp lt (.int (mixv cell 8 / 7 % 12)) (.int 2) = some (.val (.bl (decide (mixv cell 8 / 7 % 12 < 2)))) := rfl
  have q2 : gEq (.int (mixv cell 8 / 7 % 12)) (.int 2) = some (.val (.bl (decide (mixv cell 8 / 7 % 12 = 2)))) := og_eq rfl
  have n1 : gNeg (.int 1) = some (.val (.int (-1))) := rfl
  have hz : (dlD ds).length < sizeLine := by rw [dlD_len]; unfold sizeLine; omega
  obtain ⟨e0, he0, g0⟩ := any_deed_ok cell
  have s4 : (fSet 4 (fBin (fBin (fCall 2 (fCons (fVar 0) (fCons (fBin (fC (.int 2)) (fVar 3) gAdd) fNil)) m_cell_at) (fC (.int 1000003)) gMod) (fBin (fC (.int 5003)) (fVar 3) gMul) gAdd)) [.sh (.scr ns), p1, .ow (dlD ds), .sh (.int (ds.length : Int)), b4, b5] = .ok .nx [.sh (.scr ns), p1, .ow (dlD ds), .sh (.int (ds.length : Int)), .sh (.int cell), b5] := by
    apply Eq.trans
    walk_at "ev"
  have s5 : (fSet 5 (fBin (fBin (fCall 2 (fCons (fVar 4) (fCons (fC (.int 8)) fNil)) m_mix) (fC (.int 7)) gDiv) (fC (.int 12)) gMod)) [.sh (.scr ns), p1, .ow (dlD ds), .sh (.int (ds.length : Int)), .sh (.int cell), b5] = .ok .nx [.sh (.scr ns), p1, .ow (dlD ds), .sh (.int (ds.length : Int)), .sh (.int cell), .sh (.int (mixv cell 8 / 7 % 12))] := by
    apply Eq.trans
    walk_at "ev"
  have t : fOrT (fTest (fBin (fVar 3) (fC (.int 0)) gEq)) (fTest (fBin (fVar 5) (fC (.int 2)) (gCmp lt))) [.sh (.scr ns), p1, .ow (dlD ds), .sh (.int (ds.length : Int)), .sh (.int cell), .sh (.int (mixv cell 8 / 7 % 12))] = .ok (decide ((ds.length : Int) = 0) || decide (mixv cell 8 / 7 % 12 < 2)) [.sh (.scr ns), p1, .ow (dlD ds), .sh (.int (ds.length : Int)), .sh (.int cell), .sh (.int (mixv cell 8 / 7 % 12))] := ev_orB (by walk_at "ev") (by walk_at "ev")
  unfold bSD
  cases h1 : (decide ((ds.length : Int) = 0) || decide (mixv cell 8 / 7 % 12 < 2)) with
  | true =>
    refine ⟨e0, .sh (.int cell), .sh (.int (mixv cell 8 / 7 % 12)), he0, ?_⟩
    rw [dlD_app]
    refine ev_seqK s4 (seqK_nx (ev_seqK s5 (seqK_nx (ev_if t (ev_iteT h1 ?_)))))
    exact ev_app (i := 2) (es := dlD ds) (ds := dlD ds) rfl (ev_call (ev_cons (ev_var rfl) ev_nil) rfl rfl g0) rfl rfl hz
  | false =>
    have hne : ds ≠ [] := by
      rintro rfl
      simp at h1
    obtain ⟨init, l, rfl⟩ : ∃ init l, ds = init ++ [l] := ⟨ds.dropLast, ds.getLast hne, (List.dropLast_concat_getLast hne).symm⟩
    have hlok : l.ok := hd l (List.mem_append_right _ List.mem_cons_self)
    have gl := ix_last init l
    by_cases h2 : mixv cell 8 / 7 % 12 = 2
    · refine ⟨l, .sh (.int cell), .sh (.int (mixv cell 8 / 7 % 12)), hlok, ?_⟩
      rw [dlD_app (init ++ [l])]
      refine ev_seqK s4 (seqK_nx (ev_seqK s5 (seqK_nx (ev_if t (ev_iteF h1 ?_)))))
      refine ev_if (ev_test (ev_bin (ev_var rfl) ev_c rfl rfl q2) rfl) (ev_iteT (decide_eq_true h2) ?_)
      exact ev_app (i := 2) (es := dlD (init ++ [l])) (ds := dlD (init ++ [l])) rfl (ev_bin (ev_slot rfl) (ev_un ev_c rfl n1) rfl rfl gl) rfl rfl hz
    · obtain ⟨e1, he1, g1⟩ := next_deed_ok l hlok cell
      refine ⟨e1, .sh (.int cell), .sh (.int (mixv cell 8 / 7 % 12)), he1, ?_⟩
      rw [dlD_app (init ++ [l])]
      refine ev_seqK s4 (seqK_nx (ev_seqK s5 (seqK_nx (ev_if t (ev_iteF h1 ?_)))))
      refine ev_if (ev_test (ev_bin (ev_var rfl) ev_c rfl rfl q2) rfl) (ev_iteF (decide_eq_false h2) ?_)
      exact ev_app (i := 2) (es := dlD (init ++ [l])) (ds := dlD (init ++ [l])) rfl (ev_call (ev_cons (ev_bin (ev_slot rfl) (ev_un ev_c rfl n1) rfl rfl gl) (ev_cons (ev_var rfl) ev_nil)) rfl rfl g1) rfl rfl hz
theorem rangeD_cons' (s : Int) (n : Nat) : rangeD s (n + 1) = .int s :: rangeD (s + 1) n := by
  unfold rangeD
  rw [List.range_succ_eq_map, List.map_cons, List.map_map]
  congr 1
  · show D.int (s + 0) = _; rw [Int.add_zero]
  · apply List.map_congr_left
    intro k _
    show D.int (s + ((k + 1 : Nat) : Int)) = D.int (s + 1 + (k : Int))
    congr 1
    omega
theorem sd_loop (ns : List Int) (p1 : Sl) : ∀ (m : Nat) (ds : List Dd) (b3 b4 b5 : Sl), (∀ d ∈ ds, d.ok) → ds.length + m ≤ 1000 → ∃ (es : List Dd) (x3 x4 x5 : Sl), (∀ d ∈ es, d.ok) ∧ es.length = m ∧
    loopD (sName 3) bSD (rangeD (ds.length : Int) m) [.sh (.scr ns), p1, .ow (dlD ds), b3, b4, b5] = .ok .nx [.sh (.scr ns), p1, .ow (dlD (ds ++ es)), x3, x4, x5]
  | 0, ds, b3, b4, b5, _, _ => ⟨[], b3, b4, b5, (fun d hd => by cases hd), rfl, by rw [List.append_nil]; rfl⟩
  | m + 1, ds, b3, b4, b5, hd, hl => by
    obtain ⟨d, x4, x5, hdk, e1⟩ := sd_turn ns p1 b4 b5 ds hd (by omega)
    obtain ⟨es, y3, y4, y5, hes, hel, e⟩ := sd_loop ns p1 m (ds ++ [d]) (.sh (.int (ds.length : Int))) x4 x5 (fun c hc => by
      rcases List.mem_append.mp hc with z | z
      · exact hd c z
      · rw [List.mem_singleton.mp z]; exact hdk) (by rw [List.length_append, List.length_singleton]; omega)
    refine ⟨d :: es, y3, y4, y5, fun c hc => ?_, by rw [List.length_cons, hel], ?_⟩
    · rcases List.mem_cons.mp hc with z | z
      · rw [z]; exact hdk
      · exact hes c z
    · rw [rangeD_cons']
      refine loop_nx rfl e1 ?_
      rw [show ds ++ d :: es = (ds ++ [d]) ++ es by rw [List.append_assoc]; rfl, ← e, List.length_append, List.length_singleton]
      rfl
theorem some_deeds_ok (ns : List Int) (many : Int) (h0 : 0 ≤ many) (h1 : many ≤ 1000) : ∃ ds : List Dd, (∀ d ∈ ds, d.ok) ∧ (ds.length : Int) = many ∧ m_some_deeds [.scr ns, .int many] = .own (dlD ds) := by
  obtain ⟨es, x3, x4, x5, hes, hel, e⟩ := sd_loop ns (.sh (.int many)) many.toNat [] .no .no .no (fun d hd => by cases hd) (by show 0 + _ ≤ _; omega)
  rw [List.nil_append] at e
  refine ⟨es, hes, by omega, ?_⟩
  have g6 : small62 many = true := og_small (by omega) (by omega)
  have e : loopD (sName 3) bSD (rangeD 0 many.toNat) [.sh (.scr ns), .sh (.int many), .ow [], .no, .no, .no] = .ok .nx [.sh (.scr ns), .sh (.int many), .ow (dlD es), x3, x4, x5] := e
  unfold bSD at e
  unfold m_some_deeds b_some_deeds
  apply ev_runO
  walk_at "ev"
end Lw
namespace Lw
open PySem L2 DL
noncomputable def mvOk (r : Str) (s : Int) : Dd → Bool
  | .mv r' a t => (r' == r) && (t - a == s)
  | .ky _ _ _ _ => false
noncomputable def kyOk (y : Str) : Dd → Bool
  | .ky _ _ _ y' => y' == y
  | .mv _ _ _ => false
noncomputable def ats (ds : List Dd) : List Int := ds.map Dd.at
noncomputable def ltAt (ds : List Dd) : D → Bool
  | .int k => decide ((ats ds).getD k.toNat 0 < (ats ds).getD (k.toNat + 1) 0)
  | _ => false
noncomputable def gtAt (ds : List Dd) : D → Bool
  | .int k => decide ((ats ds).getD k.toNat 0 > (ats ds).getD (k.toNat + 1) 0)
  | _ => false
noncomputable def passB : List Dd → Bool
  | [] => false
  | .mv r a t :: q => (Dd.mv r a t :: q).all (mvOk r (t - a)) && (((manyOf (ats (Dd.mv r a t :: q)) : Nat) : Int) == ((Dd.mv r a t :: q).length : Int))
  | .ky k r a y :: q => (Dd.ky k r a y :: q).all (kyOk y) && ((rangeD 0 q.length).all (ltAt (Dd.ky k r a y :: q)) || (rangeD 0 q.length).all (gtAt (Dd.ky k r a y :: q)))
theorem intsOf_map : ∀ cs : List Int, intsOf (cs.map D.int) = some cs
  | [] => rfl
  | c :: cs => by
    show (intsOf (cs.map D.int)).map _ = _
    rw [intsOf_map cs]; rfl
theorem blsOf_map (h : D → Bool) : ∀ (l : List D), blsOf (l.map fun d => D.bl (h d)) = some (l.map h)
  | [] => rfl
  | d :: ds => by
    show (blsOf (ds.map fun d => D.bl (h d))).map _ = _
    rw [blsOf_map h ds]; rfl
theorem all_map' (h : D → Bool) (l : List D) : gAll [.lst (l.map fun d => D.bl (h d))] = some (.val (.bl (l.all h))) := by
  show (blsOf _).map _ = _
  rw [blsOf_map]
  show some (DV.val (.bl (List.all _ id))) = _
  rw [List.all_map]; rfl
theorem ix_at (d : Dd) : gIx d.D (.int 2) = some (.val (.int d.at)) := by cases d <;> rfl
theorem ix_dl {ds : List Dd} {i : Int} {d : Dd} (h0 : 0 ≤ i) (h : ds[i.toNat]? = some d) : gIx (.lst (dlD ds)) (.int i) = some (.val d.D) :=
  og_ixL (atI_of h0 (by unfold dlD; rw [List.getElem?_map, h]; rfl))
theorem ats_at {ds : List Dd} {k : Nat} {d : Dd} (h : ds[k]? = some d) : (ats ds).getD k 0 = d.at := by
  unfold ats
  rw [List.getD_eq_getElem?_getD, List.getElem?_map, h]; rfl
theorem ats_comp (ds : List Dd) (hl : ds.length ≤ 1000) : compD (sName 0) (.ret true) (fBin (fVar 0) (fC (.int 2)) gIx) (dlD ds) [.no] [] = some ((ats ds).map D.int) := by
  have hz : (dlD ds).length ≤ sizeLine := by rw [dlD_len]; unfold sizeLine; omega
  rw [comp_map (g := fun d => match gIx d (.int 2) with | some (.val v) => v | _ => .non) _ .no hz ?_]
  · unfold dlD ats
    rw [List.map_map, List.map_map]
    congr 1
    apply List.map_congr_left
    intro d _
    show (match gIx d.D (.int 2) with | some (.val v) => v | _ => .non) = D.int d.at
    rw [ix_at]
  · intro e he
    obtain ⟨d, _, rfl⟩ := List.mem_map.mp he
    have h1 := ix_at d
    have h3 : (fBin (fVar 0) (fC (.int 2)) gIx) [.sh d.D] = .ok (.val (.int d.at)) [.sh d.D] := ev_bin (ev_var rfl) ev_c rfl rfl h1
    unfold fN DM.bd
    rw [h3, h1]
    rfl
theorem pair_comp (ds : List Dd) (n : Nat) (hn : n + 1 ≤ ds.length) (hl : ds.length ≤ 1000) (cmp : D → D → Option DV) (P : D → Bool) (hP : ∀ k : Nat, k < n → cmp (.int ((ats ds).getD k 0)) (.int ((ats ds).getD (k + 1) 0)) = some (.val (.bl (P (.int (k : Int)))))) :
    compD (sName 0) (.ret true) (fBin (fBin (fBin (fVar 1) (fVar 0) gIx) (fC (.int 2)) gIx) (fBin (fBin (fVar 1) (fBin (fVar 0) (fC (.int 1)) gAdd) gIx) (fC (.int 2)) gIx) cmp) (rangeD 0 n) [.no, .sh (.lst (dlD ds))] [] = some ((rangeD 0 n).map fun d => D.bl (P d)) := by
  rw [comp_map (g := fun d => D.bl (P d)) _ .no (by rw [rangeD_len]; unfold sizeLine; omega) ?_]
  intro e he
  obtain ⟨k, hk, rfl⟩ := range0_mem he
  have a1 : ds[k]? = some ds[k] := List.getElem?_eq_getElem (by omega)
  have a2 : ds[k + 1]? = some ds[k + 1] := List.getElem?_eq_getElem (by omega)
  have i1 := ix_dl (ds := ds) (i := (k : Int)) (by omega) (by rw [show ((k : Int)).toNat = k by omega]; exact a1)
  have i2 := ix_dl (ds := ds) (i := (k : Int) + 1) (by omega) (by rw [show ((k : Int) + 1).toNat = k + 1 by omega]; exact a2)
  have j1 := ix_at ds[k]
  have j2 := ix_at ds[k + 1]
  have hp := hP k hk
  rw [ats_at a1, ats_at a2] at hp
  have h3 : (fBin (fBin (fBin (fVar 1) (fVar 0) gIx) (fC (.int 2)) gIx) (fBin (fBin (fVar 1) (fBin (fVar 0) (fC (.int 1)) gAdd) gIx) (fC (.int 2)) gIx) cmp) [.sh (.int (k : Int)), .sh (.lst (dlD ds))] = .ok (.val (.bl (P (.int (k : Int))))) [.sh (.int (k : Int)), .sh (.lst (dlD ds))] :=
    ev_bin (ev_bin (ev_bin (ev_var rfl) (ev_var rfl) rfl rfl i1) ev_c rfl rfl j1) (ev_bin (ev_bin (ev_var rfl) (ev_bin (ev_var rfl) ev_c rfl rfl og_addI) rfl rfl i2) ev_c rfl rfl j2) rfl rfl hp
  unfold fN DM.bd
  rw [h3]
  rfl
noncomputable def bMv : DM Fl := (fIf (fOrT (fTest (fBin (fBin (fVar 2) (fC (.int 0)) gIx) (fC (.str "move")) gNe)) (fOrT (fTest (fBin (fBin (fVar 2) (fC (.int 1)) gIx) (fBin (fVar 1) (fC (.int 1)) gIx) gNe)) (fTest (fBin (fBin (fBin (fVar 2) (fC (.int 3)) gIx) (fBin (fVar 2) (fC (.int 2)) gIx) gSub) (fBin (fBin (fVar 1) (fC (.int 3)) gIx) (fBin (fVar 1) (fC (.int 2)) gIx) gSub) gNe)))) (fRet (fC (.bl false))) fNext)
noncomputable def bKy : DM Fl := (fIf (fOrT (fTest (fBin (fBin (fVar 2) (fC (.int 0)) gIx) (fC (.str "move")) gEq)) (fTest (fBin (fBin (fVar 2) (fC (.int 3)) gIx) (fBin (fVar 1) (fC (.int 3)) gIx) gNe))) (fRet (fC (.bl false))) fNext)
theorem mv_turn (p0 p3 p4 : Sl) (r : Str) (a t : Int) (d : Dd) (hd : d.ok) : bMv [p0, .sh (.tup [.str "move", .str r, .int a, .int t]), .sh d.D, p3, p4] = .ok (if mvOk r (t - a) d then .nx else .rt (.bl false)) [p0, .sh (.tup [.str "move", .str r, .int a, .int t]), .sh d.D, p3, p4] := by
  have f1 : gIx (.tup [.str "move", .str r, .int a, .int t]) (.int 1) = some (.val (.str r)) := rfl
  have f2 : gIx (.tup [.str "move", .str r, .int a, .int t]) (.int 2) = some (.val (.int a)) := rfl
  have f3 : gIx (.tup [.str "move", .str r, .int a, .int t]) (.int 3) = some (.val (.int t)) := rfl
  unfold bMv
  cases d with
  | ky k r' a' y =>
    have m1 : gNe (.str k) (.str (Str.ofString "move")) = some (.val (.bl true)) := by
      rcases hd.1 with rfl | rfl
      · exact og_ne (b := false) (by decide +kernel)
      · exact og_ne (b := false) (by decide +kernel)
    have i0 : gIx (Dd.ky k r' a' y).D (.int 0) = some (.val (.str k)) := rfl
    change _ = Rs.ok (Fl.rt (.bl false)) _
    walk_at "ev"
  | mv r' a' t' =>
    have m1 : gNe (.str (Str.ofString "move")) (.str (Str.ofString "move")) = some (.val (.bl false)) := og_ne (b := true) (deq_self 8 _ rfl)
    have i0 : gIx (Dd.mv r' a' t').D (.int 0) = some (.val (.str "move")) := rfl
    have i1 : gIx (Dd.mv r' a' t').D (.int 1) = some (.val (.str r')) := rfl
    have i2 : gIx (Dd.mv r' a' t').D (.int 2) = some (.val (.int a')) := rfl
    have i3 : gIx (Dd.mv r' a' t').D (.int 3) = some (.val (.int t')) := rfl
    have q1 : gNe (.str r') (.str r) = some (.val (.bl (!(r' == r)))) := og_ne rfl
    have q2 : gNe (.int (t' - a')) (.int (t - a)) = some (.val (.bl (!(t' - a' == t - a)))) := og_ne rfl
    have hm : mvOk r (t - a) (.mv r' a' t') = ((r' == r) && (t' - a' == t - a)) := rfl
    rw [hm]
    cases h1 : (r' == r) with
    | false =>
      rw [h1] at q1
      have q1 : gNe (.str r') (.str r) = some (.val (.bl true)) := q1
      change _ = Rs.ok (Fl.rt (.bl false)) _
      walk_at "ev"
    | true =>
      rw [h1] at q1
      have q1 : gNe (.str r') (.str r) = some (.val (.bl false)) := q1
      cases h2 : (t' - a' == t - a) with
      | false =>
        rw [h2] at q2
        have q2 : gNe (.int (t' - a')) (.int (t - a)) = some (.val (.bl true)) := q2
        change _ = Rs.ok (Fl.rt (.bl false)) _
        walk_at "ev"
      | true =>
        rw [h2] at q2
        have q2 : gNe (.int (t' - a')) (.int (t - a)) = some (.val (.bl false)) := q2
        change _ = Rs.ok Fl.nx _
        walk_at "ev"
theorem ky_turn (p0 p3 p4 : Sl) (k r : Str) (a : Int) (y : Str) (d : Dd) (hd : d.ok) : bKy [p0, .sh (.tup [.str k, .str r, .int a, .str y]), .sh d.D, p3, p4] = .ok (if kyOk y d then .nx else .rt (.bl false)) [p0, .sh (.tup [.str k, .str r, .int a, .str y]), .sh d.D, p3, p4] := by
  have f3 : gIx (.tup [.str k, .str r, .int a, .str y]) (.int 3) = some (.val (.str y)) := rfl
  unfold bKy
  cases d with
  | mv r' a' t' =>
    have m1 := eq_move'
    have i0 : gIx (Dd.mv r' a' t').D (.int 0) = some (.val (.str "move")) := rfl
    change _ = Rs.ok (Fl.rt (.bl false)) _
    walk_at "ev"
  | ky k' r' a' y' =>
    have m1 := eq_move hd.1
    have i0 : gIx (Dd.ky k' r' a' y').D (.int 0) = some (.val (.str k')) := rfl
    have i3 : gIx (Dd.ky k' r' a' y').D (.int 3) = some (.val (.str y')) := rfl
    have q1 : gNe (.str y') (.str y) = some (.val (.bl (!(y' == y)))) := og_ne rfl
    have hm : kyOk y (.ky k' r' a' y') = (y' == y) := rfl
    rw [hm]
    cases h1 : (y' == y) with
    | false =>
      rw [h1] at q1
      have q1 : gNe (.str y') (.str y) = some (.val (.bl true)) := q1
      change _ = Rs.ok (Fl.rt (.bl false)) _
      walk_at "ev"
    | true =>
      rw [h1] at q1
      have q1 : gNe (.str y') (.str y) = some (.val (.bl false)) := q1
      change _ = Rs.ok Fl.nx _
      walk_at "ev"
theorem fit_loop (p0 p1 p3 p4 : Sl) (S : DM Fl) (ok : Dd → Bool) (hS : ∀ d : Dd, d.ok → S [p0, p1, .sh d.D, p3, p4] = .ok (if ok d then .nx else .rt (.bl false)) [p0, p1, .sh d.D, p3, p4]) : ∀ (es : List Dd) (b2 : Sl), (∀ d ∈ es, d.ok) → ∃ x2, loopD (sName 2) S (dlD es) [p0, p1, b2, p3, p4] = .ok (if es.all ok then .nx else .rt (.bl false)) [p0, p1, x2, p3, p4]
  | [], b2, _ => ⟨b2, rfl⟩
  | d :: es, b2, h => by
    have e1 := hS d (h d List.mem_cons_self)
    show ∃ x2, loopD (sName 2) S (d.D :: dlD es) [p0, p1, b2, p3, p4] = _
    rw [List.all_cons]
    cases hk : ok d with
    | false =>
      rw [hk] at e1
      exact ⟨.sh d.D, loop_rt rfl e1⟩
    | true =>
      rw [hk] at e1
      obtain ⟨x2, e⟩ := fit_loop p0 p1 p3 p4 S ok hS es (.sh d.D) fun c hc => h c (List.mem_cons_of_mem _ hc)
      exact ⟨x2, loop_nx rfl e1 e⟩
end Lw
namespace Lw
open PySem L2 DL
theorem makes_pass_ok (ds : List Dd) (hd : ∀ d ∈ ds, d.ok) (hl : ds.length ≤ 1000) : m_makes_pass [.lst (dlD ds)] = .ok (.bl (passB ds)) := by
  cases ds with
  | nil =>
    have q0 : gEq (.lst []) (.lst []) = some (.val (.bl true)) := og_eq rfl
    change m_makes_pass [.lst []] = .ok (.bl false)
    unfold m_makes_pass b_makes_pass
    walk_at "ev"
  | cons d q =>
    have q0 : gEq (.lst (dlD (d :: q))) (.lst []) = some (.val (.bl false)) := og_eq rfl
    have i0 : gIx (.lst (dlD (d :: q))) (.int 0) = some (.val d.D) := og_ixL0
    have g1 : gLstItems (.lst (dlD (d :: q))) = some (dlD (d :: q)) := rfl
    have g2 : gLen [.lst (dlD (d :: q))] = some (.val (.int ((d :: q).length : Int))) := by
      show some (DV.val (.int _)) = _
      rw [dlD_len]
    cases d with
    | mv r a t =>
      have m1 := eq_move'
      have j0 : gIx (Dd.mv r a t).D (.int 0) = some (.val (.str "move")) := rfl
      obtain ⟨x2, e⟩ := fit_loop (.sh (.lst (dlD (Dd.mv r a t :: q)))) (.sh (.tup [.str "move", .str r, .int a, .int t])) .no .no bMv (mvOk r (t - a)) (fun d hd => mv_turn _ _ _ r a t d hd) (Dd.mv r a t :: q) .no hd
      have g3 := ats_comp (Dd.mv r a t :: q) hl
      have g4 : gLenSet (.lst ((ats (Dd.mv r a t :: q)).map D.int)) = some (.val (.int (manyOf (ats (Dd.mv r a t :: q)) : Nat))) := by
        show (intsOf _).bind _ = _
        rw [intsOf_map]
        show (if (ats (Dd.mv r a t :: q)).length + 1 < scanBound then _ else none) = _
        rw [if_pos]
        unfold ats
        rw [List.length_map]
        unfold scanBound
        omega
      have q5 : gEq (.int (manyOf (ats (Dd.mv r a t :: q)) : Nat)) (.int ((Dd.mv r a t :: q).length : Int)) = some (.val (.bl (((manyOf (ats (Dd.mv r a t :: q)) : Nat) : Int) == ((Dd.mv r a t :: q).length : Int)))) := og_eq rfl
      have hp : passB (Dd.mv r a t :: q) = ((Dd.mv r a t :: q).all (mvOk r (t - a)) && (((manyOf (ats (Dd.mv r a t :: q)) : Nat) : Int) == ((Dd.mv r a t :: q).length : Int))) := rfl
      rw [hp]
      unfold bMv at e
      cases hall : (Dd.mv r a t :: q).all (mvOk r (t - a)) with
      | false =>
        rw [hall] at e
        unfold m_makes_pass b_makes_pass
        apply ev_run
        apply ev_seqK
        · walk_at "ev"
        apply seqK_nx
        apply ev_seqK
        · exact ev_set (ev_bin (ev_var rfl) ev_c rfl rfl i0) rfl
        apply seqK_nx
        apply ev_seqK
        · apply ev_if
          · exact ev_test (ev_bin (ev_bin (ev_var rfl) ev_c rfl rfl j0) ev_c rfl rfl m1) rfl
          apply ev_iteT rfl
          apply ev_seqK
          · exact ev_for (ev_it (ev_var rfl) rfl g1) e
          exact seqK_rt
        exact seqK_rt
      | true =>
        rw [hall] at e
        unfold m_makes_pass b_makes_pass
        apply ev_run
        apply ev_seqK
        · walk_at "ev"
        apply seqK_nx
        apply ev_seqK
        · exact ev_set (ev_bin (ev_var rfl) ev_c rfl rfl i0) rfl
        apply seqK_nx
        apply ev_seqK
        · apply ev_if
          · exact ev_test (ev_bin (ev_bin (ev_var rfl) ev_c rfl rfl j0) ev_c rfl rfl m1) rfl
          apply ev_iteT rfl
          apply ev_seqK
          · exact ev_for (ev_it (ev_var rfl) rfl g1) e
          apply seqK_nx
          apply ev_retK
          · exact ev_bin (ev_lenset (ev_lc (ev_it (ev_var rfl) rfl g1) g3) rfl g4) (ev_cb (ev_cons (ev_var rfl) ev_nil) rfl g2) rfl rfl q5
          exact retK_val
        exact seqK_rt
    | ky k r a y =>
      have m1 := eq_move (hd _ List.mem_cons_self).1
      have j0 : gIx (Dd.ky k r a y).D (.int 0) = some (.val (.str k)) := rfl
      obtain ⟨x2, e⟩ := fit_loop (.sh (.lst (dlD (Dd.ky k r a y :: q)))) (.sh (.tup [.str k, .str r, .int a, .str y])) .no .no bKy (kyOk y) (fun d hd => ky_turn _ _ _ k r a y d hd) (Dd.ky k r a y :: q) .no hd
      have hlen : ((Dd.ky k r a y :: q).length : Int) - 1 = (q.length : Int) := by rw [List.length_cons]; omega
      have gs : gSub (.int ((Dd.ky k r a y :: q).length : Int)) (.int 1) = some (.val (.int (q.length : Int))) := by
        show some (DV.val (.int _)) = _
        rw [hlen]
      have g6 : small62 (q.length : Int) = true := og_small (by omega) (by rw [List.length_cons] at hl; omega)
      have c1 := pair_comp (Dd.ky k r a y :: q) q.length (by rw [List.length_cons]; omega) hl (gCmp lt) (ltAt (Dd.ky k r a y :: q)) (fun k _ => rfl)
      have c2 := pair_comp (Dd.ky k r a y :: q) q.length (by rw [List.length_cons]; omega) hl (gCmp gt) (gtAt (Dd.ky k r a y :: q)) (fun k _ => rfl)
      have a1 := all_map' (ltAt (Dd.ky k r a y :: q)) (rangeD 0 q.length)
      have a2 := all_map' (gtAt (Dd.ky k r a y :: q)) (rangeD 0 q.length)
      have hp : passB (Dd.ky k r a y :: q) = ((Dd.ky k r a y :: q).all (kyOk y) && ((rangeD 0 q.length).all (ltAt (Dd.ky k r a y :: q)) || (rangeD 0 q.length).all (gtAt (Dd.ky k r a y :: q)))) := rfl
      rw [hp]
      unfold bKy at e
      cases hall : (Dd.ky k r a y :: q).all (kyOk y) with
      | false =>
        rw [hall] at e
        unfold m_makes_pass b_makes_pass
        apply ev_run
        apply ev_seqK
        · walk_at "ev"
        apply seqK_nx
        apply ev_seqK
        · exact ev_set (ev_bin (ev_var rfl) ev_c rfl rfl i0) rfl
        apply seqK_nx
        apply ev_seqK
        · apply ev_if
          · exact ev_test (ev_bin (ev_bin (ev_var rfl) ev_c rfl rfl j0) ev_c rfl rfl m1) rfl
          apply ev_iteF rfl
          exact ev_next
        apply seqK_nx
        apply ev_seqK
        · exact ev_for (ev_it (ev_var rfl) rfl g1) e
        exact seqK_rt
      | true =>
        rw [hall] at e
        rw [Bool.true_and]
        cases h1 : (rangeD 0 q.length).all (ltAt (Dd.ky k r a y :: q)) with
        | true =>
          rw [h1] at a1
          unfold m_makes_pass b_makes_pass
          apply ev_run
          apply ev_seqK
          · walk_at "ev"
          apply seqK_nx
          apply ev_seqK
          · exact ev_set (ev_bin (ev_var rfl) ev_c rfl rfl i0) rfl
          apply seqK_nx
          apply ev_seqK
          · apply ev_if
            · exact ev_test (ev_bin (ev_bin (ev_var rfl) ev_c rfl rfl j0) ev_c rfl rfl m1) rfl
            apply ev_iteF rfl
            exact ev_next
          apply seqK_nx
          apply ev_seqK
          · exact ev_for (ev_it (ev_var rfl) rfl g1) e
          apply seqK_nx
          apply ev_seqK
          · exact ev_set (ev_lc (ev_rng1 (ev_cons (ev_bin (ev_cb (ev_cons (ev_var rfl) ev_nil) rfl g2) ev_c rfl rfl gs) ev_nil) rfl g6) c1) rfl
          apply seqK_nx
          apply ev_seqK
          · exact ev_set (ev_lc (ev_rng1 (ev_cons (ev_bin (ev_cb (ev_cons (ev_var rfl) ev_nil) rfl g2) ev_c rfl rfl gs) ev_nil) rfl g6) c2) rfl
          apply seqK_nx
          apply ev_retK
          · exact ev_orT (ev_cb (ev_cons (ev_var rfl) ev_nil) rfl a1) rfl rfl
          exact retK_val
        | false =>
          rw [h1] at a1
          unfold m_makes_pass b_makes_pass
          apply ev_run
          apply ev_seqK
          · walk_at "ev"
          apply seqK_nx
          apply ev_seqK
          · exact ev_set (ev_bin (ev_var rfl) ev_c rfl rfl i0) rfl
          apply seqK_nx
          apply ev_seqK
          · apply ev_if
            · exact ev_test (ev_bin (ev_bin (ev_var rfl) ev_c rfl rfl j0) ev_c rfl rfl m1) rfl
            apply ev_iteF rfl
            exact ev_next
          apply seqK_nx
          apply ev_seqK
          · exact ev_for (ev_it (ev_var rfl) rfl g1) e
          apply seqK_nx
          apply ev_seqK
          · exact ev_set (ev_lc (ev_rng1 (ev_cons (ev_bin (ev_cb (ev_cons (ev_var rfl) ev_nil) rfl g2) ev_c rfl rfl gs) ev_nil) rfl g6) c1) rfl
          apply seqK_nx
          apply ev_seqK
          · exact ev_set (ev_lc (ev_rng1 (ev_cons (ev_bin (ev_cb (ev_cons (ev_var rfl) ev_nil) rfl g2) ev_c rfl rfl gs) ev_nil) rfl g6) c2) rfl
          apply seqK_nx
          apply ev_retK
          · exact ev_orF (ev_cb (ev_cons (ev_var rfl) ev_nil) rfl a1) rfl rfl (ev_cb (ev_cons (ev_var rfl) ev_nil) rfl a2)
          exact retK_val
end Lw
namespace Lw
open PySem L2 DL
open PyProof.Rows (firstMet firstMet_succ step_dedup)
theorem first_le (f : Nat → Int) : ∀ n, (firstMet f n).length ≤ n
  | 0 => Nat.le_refl _
  | n + 1 => by
    rw [firstMet_succ]
    unfold step_dedup
    split
    · exact Nat.le_trans (first_le f n) (Nat.le_succ _)
    · rw [List.length_append]; have := first_le f n; show _ + 1 ≤ _; omega
theorem first_mem (f : Nat → Int) : ∀ n x, x ∈ firstMet f n ↔ ∃ i, i < n ∧ f i = x
  | 0, x => by
    constructor
    · intro h; cases h
    · rintro ⟨i, h, _⟩; omega
  | n + 1, x => by
    have ih := first_mem f n x
    rw [firstMet_succ]
    unfold step_dedup
    split
    · rename_i h
      rw [ih]
      constructor
      · rintro ⟨i, hi, e⟩; exact ⟨i, by omega, e⟩
      · rintro ⟨i, hi, e⟩
        by_cases hn : i = n
        · subst hn
          obtain ⟨y, hy, hy2⟩ := List.any_eq_true.mp h
          have : y = f i := by simpa using hy2
          rw [this] at hy
          obtain ⟨j, hj, e2⟩ := (first_mem f i (f i)).mp hy
          exact ⟨j, hj, e2.trans e⟩
        · exact ⟨i, by omega, e⟩
    · rw [List.mem_append, ih, List.mem_singleton]
      constructor
      · rintro (⟨i, hi, e⟩ | e)
        · exact ⟨i, by omega, e⟩
        · exact ⟨n, by omega, e.symm⟩
      · rintro ⟨i, hi, e⟩
        by_cases hn : i = n
        · subst hn; exact .inr e.symm
        · exact .inl ⟨i, by omega, e⟩
theorem first_full (f : Nat → Int) : ∀ n, (firstMet f n).length = n ↔ ∀ i j, i < j → j < n → f i ≠ f j
  | 0 => ⟨fun _ i j _ h => by omega, fun _ => rfl⟩
  | n + 1 => by
    have ih := first_full f n
    have hl := first_le f n
    rw [firstMet_succ]
    unfold step_dedup
    split
    · rename_i h
      constructor
      · intro e; omega
      · intro e
        obtain ⟨y, hy, hy2⟩ := List.any_eq_true.mp h
        have hy2 : y = f n := by simpa using hy2
        rw [hy2] at hy
        obtain ⟨i, hi, e2⟩ := (first_mem f n (f n)).mp hy
        exact absurd e2 (e i n hi (Nat.lt_succ_self _))
    · rename_i h
      rw [List.length_append]
      show _ + 1 = n + 1 ↔ _
      constructor
      · intro e i j hij hj
        by_cases hn : j = n
        · subst hn
          intro e2
          apply h
          refine List.any_eq_true.mpr ⟨f j, (first_mem f j (f j)).mpr ⟨i, hij, e2⟩, by simp⟩
        · exact (ih.mp (by omega)) i j hij (by omega)
      · intro e
        have := ih.mpr fun i j hij hj => e i j hij (by omega)
        omega
theorem many_nodup (l : List Int) : manyOf l = l.length ↔ l.Nodup := by
  unfold manyOf
  rw [first_full]
  have hg : ∀ i, i < l.length → l.getD i 0 = l[i]?.getD 0 := fun i _ => List.getD_eq_getElem?_getD ..
  constructor
  · intro h
    refine List.pairwise_iff_getElem.mpr fun i j hi hj hij e => h i j hij hj ?_
    show l.getD i 0 = l.getD j 0
    rw [hg i hi, hg j hj, List.getElem?_eq_getElem hi, List.getElem?_eq_getElem hj, e]
  · intro h i j hij hj e
    have hi : i < l.length := by omega
    have e : l.getD i 0 = l.getD j 0 := e
    rw [hg i hi, hg j hj, List.getElem?_eq_getElem hi, List.getElem?_eq_getElem hj] at e
    exact List.pairwise_iff_getElem.mp h i j hi hj hij e
noncomputable def goodMv (r : Str) (s : Int) : List Int → List Dd → Bool
  | _, [] => true
  | seen, d :: q => (mvOk r s d && !(seen.contains d.at)) && goodMv r s (seen ++ [d.at]) q
noncomputable def mvRun (r : Str) (s : Int) : List Int → List Dd → Nat
  | _, [] => 0
  | seen, d :: q => if (mvOk r s d && !(seen.contains d.at)) = true then 1 + mvRun r s (seen ++ [d.at]) q else 0
theorem mvRun_le (r : Str) (s : Int) : ∀ (q : List Dd) (seen : List Int), mvRun r s seen q ≤ q.length
  | [], _ => Nat.le_refl _
  | d :: q, seen => by
    unfold mvRun
    split
    · have := mvRun_le r s q (seen ++ [d.at]); rw [List.length_cons]; omega
    · exact Nat.zero_le _
theorem mvRun_iff (r : Str) (s : Int) : ∀ (q : List Dd) (seen : List Int) (n : Nat), n ≤ q.length → (n ≤ mvRun r s seen q ↔ goodMv r s seen (q.take n) = true)
  | [], seen, n, h => by
    have : n = 0 := by simpa using h
    subst this
    simp [goodMv, mvRun]
  | d :: q, seen, 0, h => by simp [goodMv]
  | d :: q, seen, n + 1, h => by
    rw [List.take_succ_cons]
    unfold mvRun goodMv
    have ih := mvRun_iff r s q (seen ++ [d.at]) n (by rw [List.length_cons] at h; omega)
    split
    · rename_i hc
      rw [hc, Bool.true_and, ← ih]
      omega
    · rename_i hc
      have : (mvOk r s d && !(seen.contains d.at)) = false := by simpa using hc
      rw [this]
      simp
theorem goodMv_iff (r : Str) (s : Int) : ∀ (q : List Dd) (seen : List Int), goodMv r s seen q = true ↔ (q.all (mvOk r s) = true ∧ (ats q).Nodup ∧ ∀ x ∈ ats q, x ∉ seen)
  | [], seen => by simp [goodMv, ats]
  | d :: q, seen => by
    have ih := goodMv_iff r s q (seen ++ [d.at])
    unfold goodMv
    rw [Bool.and_eq_true, Bool.and_eq_true, ih, List.all_cons, Bool.and_eq_true]
    show _ ↔ _ ∧ (d.at :: ats q).Nodup ∧ ∀ x ∈ d.at :: ats q, x ∉ seen
    rw [List.nodup_cons]
    constructor
    · rintro ⟨⟨h1, h2⟩, h3, h4, h5⟩
      have h2 : d.at ∉ seen := by simpa using h2
      refine ⟨⟨h1, h3⟩, ⟨fun hm => (h5 _ hm) (List.mem_append_right _ (List.mem_singleton.mpr rfl)), h4⟩, fun x hx => ?_⟩
      rcases List.mem_cons.mp hx with z | z
      · rw [z]; exact h2
      · exact fun hs => h5 x z (List.mem_append_left _ hs)
    · rintro ⟨⟨h1, h3⟩, ⟨h4, h5⟩, h6⟩
      refine ⟨⟨h1, ?_⟩, h3, h5, fun x hx hs => ?_⟩
      · have := h6 d.at List.mem_cons_self
        simpa using this
      · rcases List.mem_append.mp hs with z | z
        · exact h6 x (List.mem_cons_of_mem _ hx) z
        · rw [List.mem_singleton.mp z] at hx; exact h4 hx
theorem passB_mv (r : Str) (a t : Int) (q : List Dd) : passB (.mv r a t :: q) = goodMv r (t - a) [] (.mv r a t :: q) := by
  apply Bool.eq_iff_iff.mpr
  rw [goodMv_iff]
  show ((Dd.mv r a t :: q).all (mvOk r (t - a)) && (((manyOf (ats (Dd.mv r a t :: q)) : Nat) : Int) == ((Dd.mv r a t :: q).length : Int))) = true ↔ _
  rw [Bool.and_eq_true, ← many_nodup]
  have hl : (ats (Dd.mv r a t :: q)).length = (Dd.mv r a t :: q).length := by unfold ats; rw [List.length_map]
  rw [hl]
  constructor
  · rintro ⟨h1, h2⟩
    have h2 := eq_of_beq h2
    exact ⟨h1, by omega, fun x _ hx => by cases hx⟩
  · rintro ⟨h1, h2, _⟩
    exact ⟨h1, by rw [h2]; exact beq_self_eq_true _⟩
noncomputable def sameY : Dd → Dd → Bool
  | .ky _ _ _ y, .ky _ _ _ y' => y' == y
  | _, _ => false
noncomputable def fitS : Option Bool → Bool → Bool
  | none, _ => true
  | some s, b => b == s
noncomputable def kyStep (st : Option Bool) (b d : Dd) : Bool := sameY b d && !(d.at == b.at) && fitS st (decide (d.at > b.at))
noncomputable def goodKy : Option Bool → Dd → List Dd → Bool
  | _, _, [] => true
  | st, b, d :: q => kyStep st b d && goodKy (some (decide (d.at > b.at))) d q
noncomputable def kyRun : Option Bool → Dd → List Dd → Nat
  | _, _, [] => 0
  | st, b, d :: q => if kyStep st b d = true then 1 + kyRun (some (decide (d.at > b.at))) d q else 0
theorem kyRun_le : ∀ (q : List Dd) (st : Option Bool) (b : Dd), kyRun st b q ≤ q.length
  | [], _, _ => Nat.le_refl _
  | d :: q, st, b => by
    unfold kyRun
    split
    · have := kyRun_le q (some (decide (d.at > b.at))) d; rw [List.length_cons]; omega
    · exact Nat.zero_le _
theorem kyRun_iff : ∀ (q : List Dd) (st : Option Bool) (b : Dd) (n : Nat), n ≤ q.length → (n ≤ kyRun st b q ↔ goodKy st b (q.take n) = true)
  | [], st, b, n, h => by
    have : n = 0 := by simpa using h
    subst this
    simp [goodKy, kyRun]
  | d :: q, st, b, 0, h => by simp [goodKy]
  | d :: q, st, b, n + 1, h => by
    rw [List.take_succ_cons]
    unfold kyRun goodKy
    have ih := kyRun_iff q (some (decide (d.at > b.at))) d n (by rw [List.length_cons] at h; omega)
    split
    · rename_i hc
      rw [hc, Bool.true_and, ← ih]
      omega
    · rename_i hc
      have : kyStep st b d = false := by simpa using hc
      rw [this]
      simp
noncomputable def upB : Int → List Dd → Bool
  | _, [] => true
  | a, d :: q => decide (a < d.at) && upB d.at q
noncomputable def downB : Int → List Dd → Bool
  | _, [] => true
  | a, d :: q => decide (a > d.at) && downB d.at q
theorem goodKy_some (y : Str) : ∀ (q : List Dd) (s : Bool) (k r : Str) (a : Int), goodKy (some s) (.ky k r a y) q = (q.all (kyOk y) && (if s = true then upB a q else downB a q))
  | [], s, k, r, a => by cases s <;> rfl
  | .mv r' a' t :: q, s, k, r, a => by
    unfold goodKy kyStep
    rfl
  | .ky k' r' a' y' :: q, s, k, r, a => by
    unfold goodKy kyStep
    have hs : sameY (.ky k r a y) (.ky k' r' a' y') = (y' == y) := rfl
    have ho : kyOk y (.ky k' r' a' y') = (y' == y) := rfl
    have ha : (Dd.ky k' r' a' y').at = a' := rfl
    have hb : (Dd.ky k r a y).at = a := rfl
    rw [List.all_cons, hs, ho, ha, hb]
    cases hy : (y' == y) with
    | false => simp
    | true =>
      have hy' : y' = y := eq_of_beq hy
      subst hy'
      rw [goodKy_some y' q (decide (a' > a)) k' r' a']
      simp only [Bool.true_and]
      show ((!(a' == a) && (decide (a' > a) == s)) && (q.all (kyOk y') && _)) = (q.all (kyOk y') && _)
      cases s with
      | true =>
        simp only [if_true]
        show _ = (q.all (kyOk y') && (decide (a < a') && upB a' q))
        by_cases h : a' > a
        · have h1 : (a' == a) = false := by simp; omega
          have h2 : decide (a' > a) = true := decide_eq_true h
          rw [h1, h2]; simp
        · have h2 : decide (a' > a) = false := decide_eq_false h
          rw [h2]; simp
      | false =>
        simp only [Bool.false_eq_true, if_false]
        show _ = (q.all (kyOk y') && (decide (a > a') && downB a' q))
        by_cases h : a > a'
        · have h1 : (a' == a) = false := by simp; omega
          have h2 : decide (a' > a) = false := decide_eq_false (by omega)
          have h3 : decide (a > a') = true := decide_eq_true h
          rw [h1, h2, h3]; simp
        · have h3 : decide (a > a') = false := decide_eq_false h
          rw [h3]
          by_cases he : a' = a
          · have h1 : (a' == a) = true := by simp [he]
            rw [h1]; simp
          · have h2 : decide (a' > a) = true := decide_eq_true (by omega)
            rw [h2]; simp
theorem goodKy_none (y k r : Str) (a : Int) (q : List Dd) : goodKy none (.ky k r a y) q = (q.all (kyOk y) && (upB a q || downB a q)) := by
  cases q with
  | nil => rfl
  | cons d q =>
    cases d with
    | mv r' a' t => rfl
    | ky k' r' a' y' =>
      unfold goodKy kyStep
      have hs : sameY (.ky k r a y) (.ky k' r' a' y') = (y' == y) := rfl
      have ho : kyOk y (.ky k' r' a' y') = (y' == y) := rfl
      have ha : (Dd.ky k' r' a' y').at = a' := rfl
      have hb : (Dd.ky k r a y).at = a := rfl
      rw [List.all_cons, hs, ho, ha, hb]
      cases hy : (y' == y) with
      | false => simp
      | true =>
        have hy' : y' = y := eq_of_beq hy
        subst hy'
        rw [goodKy_some y' q (decide (a' > a)) k' r' a']
        show ((true && !(a' == a) && true) && (q.all (kyOk y') && _)) = ((true && q.all (kyOk y')) && ((decide (a < a') && upB a' q) || (decide (a > a') && downB a' q)))
        by_cases h : a' > a
        · have h1 : (a' == a) = false := by simp; omega
          have h2 : decide (a' > a) = true := decide_eq_true h
          have h4 : decide (a > a') = false := decide_eq_false (by omega)
          rw [h1, h2, h4]; simp
        · by_cases he : a' = a
          · have h1 : (a' == a) = true := by simp [he]
            have h3 : decide (a < a') = false := decide_eq_false (by omega)
            have h4 : decide (a > a') = false := decide_eq_false (by omega)
            rw [h1, h3, h4]; simp
          · have h1 : (a' == a) = false := by simpa using he
            have h2 : decide (a' > a) = false := decide_eq_false h
            have h4 : decide (a > a') = true := decide_eq_true (by omega)
            rw [h1, h2, h4]; simp
theorem upB_iff : ∀ (q : List Dd) (a : Int), upB a q = true ↔ ∀ k, k < q.length → (a :: ats q).getD k 0 < (a :: ats q).getD (k + 1) 0
  | [], a => ⟨(fun _ k h => absurd h (Nat.not_lt_zero k)), fun _ => rfl⟩
  | d :: q, a => by
    have ih := upB_iff q d.at
    unfold upB
    rw [Bool.and_eq_true, ih]
    show _ ∧ _ ↔ ∀ k, k < q.length + 1 → (a :: d.at :: ats q).getD k 0 < (a :: d.at :: ats q).getD (k + 1) 0
    constructor
    · rintro ⟨h1, h2⟩ k hk
      cases k with
      | zero => exact of_decide_eq_true h1
      | succ k => exact h2 k (by omega)
    · intro h
      exact ⟨decide_eq_true (h 0 (by omega)), fun k hk => h (k + 1) (by omega)⟩
theorem downB_iff : ∀ (q : List Dd) (a : Int), downB a q = true ↔ ∀ k, k < q.length → (a :: ats q).getD k 0 > (a :: ats q).getD (k + 1) 0
  | [], a => ⟨(fun _ k h => absurd h (Nat.not_lt_zero k)), fun _ => rfl⟩
  | d :: q, a => by
    have ih := downB_iff q d.at
    unfold downB
    rw [Bool.and_eq_true, ih]
    show _ ∧ _ ↔ ∀ k, k < q.length + 1 → (a :: d.at :: ats q).getD k 0 > (a :: d.at :: ats q).getD (k + 1) 0
    constructor
    · rintro ⟨h1, h2⟩ k hk
      cases k with
      | zero => exact of_decide_eq_true h1
      | succ k => exact h2 k (by omega)
    · intro h
      exact ⟨decide_eq_true (h 0 (by omega)), fun k hk => h (k + 1) (by omega)⟩
theorem all_lt (ds : List Dd) (n : Nat) : (rangeD 0 n).all (ltAt ds) = true ↔ ∀ k, k < n → (ats ds).getD k 0 < (ats ds).getD (k + 1) 0 := by
  unfold rangeD
  rw [List.all_map, List.all_eq_true]
  constructor
  · intro h k hk
    have := h k (List.mem_range.mpr hk)
    have := of_decide_eq_true (show decide ((ats ds).getD (0 + (k : Int)).toNat 0 < (ats ds).getD ((0 + (k : Int)).toNat + 1) 0) = true from this)
    rwa [show (0 + (k : Int)).toNat = k by omega] at this
  · intro h k hk
    show decide ((ats ds).getD (0 + (k : Int)).toNat 0 < (ats ds).getD ((0 + (k : Int)).toNat + 1) 0) = true
    rw [show (0 + (k : Int)).toNat = k by omega]
    exact decide_eq_true (h k (List.mem_range.mp hk))
theorem all_gt (ds : List Dd) (n : Nat) : (rangeD 0 n).all (gtAt ds) = true ↔ ∀ k, k < n → (ats ds).getD k 0 > (ats ds).getD (k + 1) 0 := by
  unfold rangeD
  rw [List.all_map, List.all_eq_true]
  constructor
  · intro h k hk
    have := h k (List.mem_range.mpr hk)
    have := of_decide_eq_true (show decide ((ats ds).getD (0 + (k : Int)).toNat 0 > (ats ds).getD ((0 + (k : Int)).toNat + 1) 0) = true from this)
    rwa [show (0 + (k : Int)).toNat = k by omega] at this
  · intro h k hk
    show decide ((ats ds).getD (0 + (k : Int)).toNat 0 > (ats ds).getD ((0 + (k : Int)).toNat + 1) 0) = true
    rw [show (0 + (k : Int)).toNat = k by omega]
    exact decide_eq_true (h k (List.mem_range.mp hk))
theorem passB_ky (k r : Str) (a : Int) (y : Str) (q : List Dd) : passB (.ky k r a y :: q) = goodKy none (.ky k r a y) q := by
  rw [goodKy_none]
  have h1 : (Dd.ky k r a y :: q).all (kyOk y) = q.all (kyOk y) := by
    rw [List.all_cons]
    show ((y == y) && _) = _
    rw [beq_self_eq_true, Bool.true_and]
  have h2 : (rangeD 0 q.length).all (ltAt (Dd.ky k r a y :: q)) = upB a q := by
    apply Bool.eq_iff_iff.mpr
    rw [all_lt, upB_iff]
    exact Iff.rfl
  have h3 : (rangeD 0 q.length).all (gtAt (Dd.ky k r a y :: q)) = downB a q := by
    apply Bool.eq_iff_iff.mpr
    rw [all_gt, downB_iff]
    exact Iff.rfl
  show ((Dd.ky k r a y :: q).all (kyOk y) && ((rangeD 0 q.length).all (ltAt (Dd.ky k r a y :: q)) || (rangeD 0 q.length).all (gtAt (Dd.ky k r a y :: q)))) = _
  rw [h1, h2, h3]
noncomputable def runLen : List Dd → Nat
  | [] => 0
  | .mv r a t :: q => mvRun r (t - a) [] (.mv r a t :: q)
  | .ky k r a y :: q => 1 + kyRun none (.ky k r a y) q
theorem runLen_le : ∀ ds : List Dd, runLen ds ≤ ds.length
  | [] => Nat.le_refl _
  | .mv r a t :: q => mvRun_le _ _ _ _
  | .ky k r a y :: q => by
    have := kyRun_le q none (.ky k r a y)
    show 1 + kyRun none (.ky k r a y) q ≤ q.length + 1
    omega
theorem runLen_pos : ∀ ds : List Dd, ds ≠ [] → 0 < runLen ds
  | [], h => absurd rfl h
  | .mv r a t :: q, _ => by
    show 0 < mvRun r (t - a) [] (.mv r a t :: q)
    unfold mvRun
    have : (mvOk r (t - a) (.mv r a t) && !(([] : List Int).contains (Dd.mv r a t).at)) = true := by
      show ((r == r) && (t - a == t - a) && _) = true
      simp
    rw [if_pos this]
    omega
  | .ky k r a y :: q, _ => by
    show 0 < 1 + kyRun none (.ky k r a y) q
    omega
theorem pass_iff (ds : List Dd) (n : Nat) (h0 : 0 < n) (hn : n ≤ ds.length) : passB (ds.take n) = true ↔ n ≤ runLen ds := by
  obtain ⟨m, rfl⟩ : ∃ m, n = m + 1 := ⟨n - 1, by omega⟩
  cases ds with
  | nil => simp at hn
  | cons d q =>
    rw [List.take_succ_cons]
    cases d with
    | mv r a t =>
      rw [passB_mv, ← List.take_succ_cons, ← mvRun_iff _ _ _ _ _ hn]
      exact Iff.rfl
    | ky k r a y =>
      rw [passB_ky, ← kyRun_iff q none _ m (by rw [List.length_cons] at hn; omega)]
      show _ ↔ m + 1 ≤ 1 + kyRun none (.ky k r a y) q
      omega
end Lw
namespace Lw
open PySem L2 DL
theorem og_subI {i j : Int} : gSub (.int i) (.int j) = some (.val (.int (i - j))) := rfl
noncomputable def mvD (r : Str) (a t : Int) : D := .tup [.str "move", .str r, .int a, .int t]
theorem beside_ok (r : Str) (a t : Int) (d : Dd) (hd : d.ok) : m_is_move_beside [mvD r a t, d.D] = .ok (.bl (mvOk r (t - a) d)) := by
  have f1 : gIx (mvD r a t) (.int 1) = some (.val (.str r)) := rfl
  have f2 : gIx (mvD r a t) (.int 2) = some (.val (.int a)) := rfl
  have f3 : gIx (mvD r a t) (.int 3) = some (.val (.int t)) := rfl
  unfold m_is_move_beside b_is_move_beside
  cases d with
  | ky k r' a' y =>
    have m1 := eq_move hd.1
    have i0 : gIx (Dd.ky k r' a' y).D (.int 0) = some (.val (.str k)) := rfl
    apply ev_run
    apply ev_retK
    · exact ev_andF (ev_bin (ev_bin (ev_var rfl) ev_c rfl rfl i0) ev_c rfl rfl m1) rfl rfl
    exact retK_val
  | mv r' a' t' =>
    have m1 := eq_move'
    have i0 : gIx (Dd.mv r' a' t').D (.int 0) = some (.val (.str "move")) := rfl
    have i1 : gIx (Dd.mv r' a' t').D (.int 1) = some (.val (.str r')) := rfl
    have i2 : gIx (Dd.mv r' a' t').D (.int 2) = some (.val (.int a')) := rfl
    have i3 : gIx (Dd.mv r' a' t').D (.int 3) = some (.val (.int t')) := rfl
    have q1 : gEq (.str r') (.str r) = some (.val (.bl (r' == r))) := og_eq rfl
    have q2 : gEq (.int (t' - a')) (.int (t - a)) = some (.val (.bl (t' - a' == t - a))) := og_eq rfl
    have hm : mvOk r (t - a) (.mv r' a' t') = ((r' == r) && (t' - a' == t - a)) := rfl
    rw [hm]
    have e0 : (fBin (fBin (fVar 1) (fC (.int 0)) gIx) (fC (.str "move")) gEq) [.sh (mvD r a t), .sh (Dd.mv r' a' t').D] = .ok (.val (.bl true)) [.sh (mvD r a t), .sh (Dd.mv r' a' t').D] := ev_bin (ev_bin (ev_var rfl) ev_c rfl rfl i0) ev_c rfl rfl m1
    have e1 : (fBin (fBin (fVar 1) (fC (.int 1)) gIx) (fBin (fVar 0) (fC (.int 1)) gIx) gEq) [.sh (mvD r a t), .sh (Dd.mv r' a' t').D] = .ok (.val (.bl (r' == r))) [.sh (mvD r a t), .sh (Dd.mv r' a' t').D] := ev_bin (ev_bin (ev_var rfl) ev_c rfl rfl i1) (ev_bin (ev_var rfl) ev_c rfl rfl f1) rfl rfl q1
    have e2 : (fBin (fBin (fBin (fVar 1) (fC (.int 3)) gIx) (fBin (fVar 1) (fC (.int 2)) gIx) gSub) (fBin (fBin (fVar 0) (fC (.int 3)) gIx) (fBin (fVar 0) (fC (.int 2)) gIx) gSub) gEq) [.sh (mvD r a t), .sh (Dd.mv r' a' t').D] = .ok (.val (.bl (t' - a' == t - a))) [.sh (mvD r a t), .sh (Dd.mv r' a' t').D] :=
      ev_bin (ev_bin (ev_bin (ev_var rfl) ev_c rfl rfl i3) (ev_bin (ev_var rfl) ev_c rfl rfl i2) rfl rfl og_subI) (ev_bin (ev_bin (ev_var rfl) ev_c rfl rfl f3) (ev_bin (ev_var rfl) ev_c rfl rfl f2) rfl rfl og_subI) rfl rfl q2
    cases h1 : (r' == r) with
    | false =>
      rw [h1] at e1
      apply ev_run
      apply ev_retK
      · exact ev_andT e0 rfl rfl (ev_andF e1 rfl rfl)
      exact retK_val
    | true =>
      rw [h1] at e1
      apply ev_run
      apply ev_retK
      · exact ev_andT e0 rfl rfl (ev_andT e1 rfl rfl e2)
      exact retK_val
noncomputable def bMvE : DM Fl := (fSeq (fSet 5 (fBin (fVar 0) (fVar 4) gIx))
    (fSeq (fIf (fOrT (fNotT (fTest (fCall 2 (fCons (fVar 2) (fCons (fVar 5) fNil)) m_is_move_beside))) (fTest (fInD (fBin (fVar 5) (fC (.int 2)) gIx) 3))) (fRet (fVar 4)) fNext)
    (fPutD 3 (fC (.bl true)) (fBin (fVar 5) (fC (.int 2)) gIx))))
theorem rangeD_cons3 (s : Int) (n : Nat) : rangeD s (n + 1) = .int s :: rangeD (s + 1) n := by
  unfold rangeD
  rw [List.range_succ_eq_map, List.map_cons, List.map_map]
  congr 1
  · show D.int (s + 0) = _; rw [Int.add_zero]
  · apply List.map_congr_left
    intro k _
    show D.int (s + ((k + 1 : Nat) : Int)) = D.int (s + 1 + (k : Int))
    congr 1
    omega
theorem mv_loop (ds : List Dd) (p1 : Sl) (r : Str) (a t : Int) : ∀ (q : List Dd) (n : Nat) (ks : List Int) (vs : List D) (b4 b5 : Sl), (∀ (j : Nat) d, q[j]? = some d → ds[n + j]? = some d) → (∀ d ∈ q, d.ok) → ks.length + q.length ≤ 10000 →
    ∃ s3 x4 x5, loopD (sName 4) bMvE (rangeD (n : Int) q.length) [.sh (.lst (dlD ds)), p1, .sh (mvD r a t), .dc ks vs, b4, b5] = .ok (if mvRun r (t - a) ks q = q.length then .nx else .rt (.int ((n + mvRun r (t - a) ks q : Nat) : Int))) [.sh (.lst (dlD ds)), p1, .sh (mvD r a t), s3, x4, x5]
  | [], n, ks, vs, b4, b5, _, _, _ => ⟨.dc ks vs, b4, b5, by rw [if_pos (show mvRun r (t - a) ks [] = ([] : List Dd).length from rfl)]; rfl⟩
  | d :: q, n, ks, vs, b4, b5, hc, hd, hl => by
    have a1 : ds[n]? = some d := by have := hc 0 d rfl; simpa using this
    have i1 := ix_dl (ds := ds) (i := (n : Int)) (by omega) (by rw [show ((n : Int)).toNat = n by omega]; exact a1)
    have g1 := beside_ok r a t d (hd d List.mem_cons_self)
    have i2 := ix_at d
    have s5 : (fSet 5 (fBin (fVar 0) (fVar 4) gIx)) [.sh (.lst (dlD ds)), p1, .sh (mvD r a t), .dc ks vs, .sh (.int (n : Int)), b5] = .ok .nx [.sh (.lst (dlD ds)), p1, .sh (mvD r a t), .dc ks vs, .sh (.int (n : Int)), .sh d.D] := ev_set (ev_bin (ev_var rfl) (ev_var rfl) rfl rfl i1) rfl
    have t1 : (fNotT (fTest (fCall 2 (fCons (fVar 2) (fCons (fVar 5) fNil)) m_is_move_beside))) [.sh (.lst (dlD ds)), p1, .sh (mvD r a t), .dc ks vs, .sh (.int (n : Int)), .sh d.D] = .ok (!(mvOk r (t - a) d)) [.sh (.lst (dlD ds)), p1, .sh (mvD r a t), .dc ks vs, .sh (.int (n : Int)), .sh d.D] := ev_notT (ev_test (ev_call (ev_cons (ev_var rfl) (ev_cons (ev_var rfl) ev_nil)) rfl rfl g1) rfl)
    have t2 : (fTest (fInD (fBin (fVar 5) (fC (.int 2)) gIx) 3)) [.sh (.lst (dlD ds)), p1, .sh (mvD r a t), .dc ks vs, .sh (.int (n : Int)), .sh d.D] = .ok (ks.contains d.at) [.sh (.lst (dlD ds)), p1, .sh (mvD r a t), .dc ks vs, .sh (.int (n : Int)), .sh d.D] := ev_test (ev_inD (ev_bin (ev_var rfl) ev_c rfl rfl i2) rfl rfl) rfl
    have t3 := ev_orB t1 t2
    have hr : rangeD (n : Int) (d :: q).length = .int (n : Int) :: rangeD ((n : Int) + 1) q.length := by rw [List.length_cons, rangeD_cons3]
    have hrun : mvRun r (t - a) ks (d :: q) = if (mvOk r (t - a) d && !(ks.contains d.at)) = true then 1 + mvRun r (t - a) (ks ++ [d.at]) q else 0 := rfl
    rw [hr]
    cases hk : (mvOk r (t - a) d && !(ks.contains d.at)) with
    | false =>
      have hb : (!(mvOk r (t - a) d) || ks.contains d.at) = true := by
        have := congrArg (fun b => !b) hk
        simpa [Bool.not_and] using this
      rw [hb] at t3
      refine ⟨.dc ks vs, .sh (.int (n : Int)), .sh d.D, ?_⟩
      have hrun' : mvRun r (t - a) ks (d :: q) = 0 := by rw [hrun, hk]; rfl
      rw [hrun', if_neg (show ¬ 0 = (d :: q).length by rw [List.length_cons]; omega)]
      refine loop_rt rfl (?_ : bMvE [.sh (.lst (dlD ds)), p1, .sh (mvD r a t), .dc ks vs, .sh (.int (n : Int)), b5] = .ok (.rt (.int (n : Int))) [.sh (.lst (dlD ds)), p1, .sh (mvD r a t), .dc ks vs, .sh (.int (n : Int)), .sh d.D])
      unfold bMvE
      exact ev_seqK s5 (seqK_nx (ev_seqK (ev_if t3 (ev_iteT rfl (ev_ret (ev_var rfl)))) seqK_rt))
    | true =>
      have hb : (!(mvOk r (t - a) d) || ks.contains d.at) = false := by
        have := congrArg (fun b => !b) hk
        simpa [Bool.not_and] using this
      rw [hb] at t3
      have hnc : ks.contains d.at = false := (Bool.or_eq_false_iff.mp hb).2
      obtain ⟨s3, x4, x5, e⟩ := mv_loop ds p1 r a t q (n + 1) (ks ++ [d.at]) (vs ++ [.bl true]) (.sh (.int (n : Int))) (.sh d.D) (fun j c hj => by have := hc (j + 1) c (by simpa using hj); rw [show n + 1 + j = n + (j + 1) by omega]; exact this) (fun c hm => hd c (List.mem_cons_of_mem _ hm)) (by rw [List.length_append]; rw [List.length_cons] at hl; show _ + 1 + _ ≤ _; omega)
      have hn1 : ((n + 1 : Nat) : Int) = (n : Int) + 1 := by omega
      rw [hn1] at e
      have sp : (fPutD 3 (fC (.bl true)) (fBin (fVar 5) (fC (.int 2)) gIx)) [.sh (.lst (dlD ds)), p1, .sh (mvD r a t), .dc ks vs, .sh (.int (n : Int)), .sh d.D] = .ok .nx [.sh (.lst (dlD ds)), p1, .sh (mvD r a t), .dc (ks ++ [d.at]) (vs ++ [.bl true]), .sh (.int (n : Int)), .sh d.D] :=
        ev_putD (i := 3) (ks := ks) (vs := vs) (ks0 := ks) (vs0 := vs) (k := d.at) (d := .bl true) ev_c rfl rfl (ev_bin (ev_var rfl) ev_c rfl rfl i2) rfl rfl hnc (by rw [List.length_cons] at hl; unfold sizeLine; omega)
      have turn : bMvE [.sh (.lst (dlD ds)), p1, .sh (mvD r a t), .dc ks vs, .sh (.int (n : Int)), b5] = .ok .nx [.sh (.lst (dlD ds)), p1, .sh (mvD r a t), .dc (ks ++ [d.at]) (vs ++ [.bl true]), .sh (.int (n : Int)), .sh d.D] := by
        unfold bMvE
        exact ev_seqK s5 (seqK_nx (ev_seqK (ev_if t3 (ev_iteF rfl ev_next)) (seqK_nx sp)))
      have hrun' : mvRun r (t - a) ks (d :: q) = 1 + mvRun r (t - a) (ks ++ [d.at]) q := by rw [hrun, hk]; rfl
      refine ⟨s3, x4, x5, loop_nx rfl turn ?_⟩
      rw [e, hrun']
      by_cases hz : mvRun r (t - a) (ks ++ [d.at]) q = q.length
      · rw [if_pos hz, if_pos (by rw [List.length_cons]; omega)]
      · rw [if_neg hz, if_neg (by rw [List.length_cons]; omega)]
        have : n + 1 + mvRun r (t - a) (ks ++ [d.at]) q = n + (1 + mvRun r (t - a) (ks ++ [d.at]) q) := by omega
        rw [this]
theorem moves_end_ok (ds : List Dd) (s : Nat) (r : Str) (a t : Int) (q : List Dd) (hs : ds.drop s = .mv r a t :: q) (hd : ∀ d ∈ ds, d.ok) (hl : ds.length ≤ 5000) : m_moves_end [.lst (dlD ds), .int (s : Int)] = .ok (.int ((s + runLen (ds.drop s) : Nat) : Int)) := by
  have hlen : s + (ds.drop s).length = ds.length := by
    have : (ds.drop s).length ≠ 0 := by rw [hs]; exact Nat.succ_ne_zero _
    rw [List.length_drop] at this ⊢
    omega
  have hget : ∀ (j : Nat) d, (ds.drop s)[j]? = some d → ds[s + j]? = some d := fun j d h => by rwa [List.getElem?_drop] at h
  have a1 : ds[s]? = some (.mv r a t) := by have := hget 0 (.mv r a t) (by rw [hs]; rfl); simpa using this
  have i1 := ix_dl (ds := ds) (i := (s : Int)) (by omega) (by rw [show ((s : Int)).toNat = s by omega]; exact a1)
  obtain ⟨s3, x4, x5, e⟩ := mv_loop ds (.sh (.int (s : Int))) r a t (ds.drop s) s [] [] .no .no hget (fun d hm => hd d (List.mem_of_mem_drop hm)) (by show 0 + _ ≤ _; omega)
  have hrun : runLen (ds.drop s) = mvRun r (t - a) [] (ds.drop s) := by rw [hs]; rfl
  have g2 : gLen [.lst (dlD ds)] = some (.val (.int (ds.length : Int))) := by
    show some (DV.val (.int _)) = _
    rw [dlD_len]
  have g6 : small62 (s : Int) = true := og_small (by omega) (by omega)
  have g7 : small62 (ds.length : Int) = true := og_small (by omega) (by omega)
  have hn : ((ds.length : Int) - (s : Int)).toNat = (ds.drop s).length := by omega
  rw [hrun]
  unfold bMvE at e
  unfold m_moves_end b_moves_end
  have lp : ∀ S R, loopD (sName 4) S (rangeD (s : Int) (ds.drop s).length) [.sh (.lst (dlD ds)), .sh (.int (s : Int)), .sh (mvD r a t), .dc [] [], .no, .no] = R → (fFor (fRng2 (fCons (fVar 1) (fCons (fCB (fCons (fVar 0) fNil) gLen) fNil))) (sName 4) S) [.sh (.lst (dlD ds)), .sh (.int (s : Int)), .sh (mvD r a t), .dc [] [], .no, .no] = R := fun S R h => by
    refine ev_for (ev_rng2 (ev_cons (ev_var rfl) (ev_cons (ev_cb (ev_cons (ev_var rfl) ev_nil) rfl g2) ev_nil)) rfl g6 g7) ?_
    rw [hn]
    exact h
  have lp := lp _ _ e
  by_cases hz : mvRun r (t - a) [] (ds.drop s) = (ds.drop s).length
  · rw [if_pos hz] at lp
    rw [hz, hlen]
    apply ev_run
    apply ev_seqK
    · exact ev_set (ev_bin (ev_var rfl) (ev_var rfl) rfl rfl i1) rfl
    apply seqK_nx
    apply ev_seqK
    · exact ev_dict0
    apply seqK_nx
    apply ev_seqK
    · exact lp
    apply seqK_nx
    exact ev_ret (ev_cb (ev_cons (ev_var rfl) ev_nil) rfl g2)
  · rw [if_neg hz] at lp
    apply ev_run
    apply ev_seqK
    · exact ev_set (ev_bin (ev_var rfl) (ev_var rfl) rfl rfl i1) rfl
    apply seqK_nx
    apply ev_seqK
    · exact ev_dict0
    apply seqK_nx
    apply ev_seqK
    · exact lp
    exact seqK_rt
end Lw
namespace Lw
open PySem L2 DL
noncomputable def stD : Option Bool → D
  | none => .non
  | some b => .bl b
noncomputable def bKyE : DM Fl := (fSeq (fSet 4 (fBin (fVar 0) (fBin (fVar 3) (fC (.int 1)) gSub) gIx))
    (fSeq (fSet 5 (fBin (fVar 0) (fVar 3) gIx))
    (fSeq (fIf (fOrT (fTest (fBin (fBin (fVar 5) (fC (.int 0)) gIx) (fC (.str "move")) gEq)) (fOrT (fTest (fBin (fBin (fVar 5) (fC (.int 3)) gIx) (fBin (fVar 4) (fC (.int 3)) gIx) gNe)) (fTest (fBin (fBin (fVar 5) (fC (.int 2)) gIx) (fBin (fVar 4) (fC (.int 2)) gIx) gEq)))) (fRet (fVar 3)) fNext)
    (fSeq (fSet 6 (fBin (fBin (fVar 5) (fC (.int 2)) gIx) (fBin (fVar 4) (fC (.int 2)) gIx) (gCmp gt)))
    (fSeq (fIf (fAndT (fTest (fBin (fVar 2) (fC .non) gIsNotN)) (fTest (fBin (fVar 6) (fVar 2) gNe))) (fRet (fVar 3)) fNext)
    (fSet 2 (fVar 6)))))))
theorem ky_turn_stop (p0 p1 p2 b4 b5 b6 : Sl) (ds : List Dd) (h0 : p0 = .sh (.lst (dlD ds))) (n : Nat) (k r : Str) (a : Int) (y : Str) (hb : ds[n]? = some (.ky k r a y)) (d : Dd) (hd : d.ok) (ha : ds[n + 1]? = some d)
    (hs : (sameY (.ky k r a y) d && !(d.at == a)) = false) : ∃ x4 x5, bKyE [p0, p1, p2, .sh (.int ((n + 1 : Nat) : Int)), b4, b5, b6] = .ok (.rt (.int ((n + 1 : Nat) : Int))) [p0, p1, p2, .sh (.int ((n + 1 : Nat) : Int)), x4, x5, b6] := by
  subst h0
  have i1 := ix_dl (ds := ds) (i := ((n + 1 : Nat) : Int) - 1) (by omega) (by rw [show (((n + 1 : Nat) : Int) - 1).toNat = n by omega]; exact hb)
  have i2 := ix_dl (ds := ds) (i := ((n + 1 : Nat) : Int)) (by omega) (by rw [show (((n + 1 : Nat) : Int)).toNat = n + 1 by omega]; exact ha)
  have j2 : gIx (Dd.ky k r a y).D (.int 2) = some (.val (.int a)) := rfl
  have j3 : gIx (Dd.ky k r a y).D (.int 3) = some (.val (.str y)) := rfl
  refine ⟨.sh (Dd.ky k r a y).D, .sh d.D, ?_⟩
  have s4 : (fSet 4 (fBin (fVar 0) (fBin (fVar 3) (fC (.int 1)) gSub) gIx)) [.sh (.lst (dlD ds)), p1, p2, .sh (.int ((n + 1 : Nat) : Int)), b4, b5, b6] = .ok .nx [.sh (.lst (dlD ds)), p1, p2, .sh (.int ((n + 1 : Nat) : Int)), .sh (Dd.ky k r a y).D, b5, b6] := ev_set (ev_bin (ev_var rfl) (ev_bin (ev_var rfl) ev_c rfl rfl og_subI) rfl rfl i1) rfl
  have s5 : (fSet 5 (fBin (fVar 0) (fVar 3) gIx)) [.sh (.lst (dlD ds)), p1, p2, .sh (.int ((n + 1 : Nat) : Int)), .sh (Dd.ky k r a y).D, b5, b6] = .ok .nx [.sh (.lst (dlD ds)), p1, p2, .sh (.int ((n + 1 : Nat) : Int)), .sh (Dd.ky k r a y).D, .sh d.D, b6] := ev_set (ev_bin (ev_var rfl) (ev_var rfl) rfl rfl i2) rfl
  unfold bKyE
  refine ev_seqK s4 (seqK_nx (ev_seqK s5 (seqK_nx (ev_seqK (ev_if (b := true) ?_ (ev_iteT rfl (ev_ret (ev_var rfl)))) seqK_rt))))
  cases d with
  | mv r' a' t' =>
    have m1 := eq_move'
    have i0 : gIx (Dd.mv r' a' t').D (.int 0) = some (.val (.str "move")) := rfl
    exact ev_orTT (ev_test (ev_bin (ev_bin (ev_var rfl) ev_c rfl rfl i0) ev_c rfl rfl m1) rfl) rfl
  | ky k' r' a' y' =>
    have m1 := eq_move hd.1
    have i0 : gIx (Dd.ky k' r' a' y').D (.int 0) = some (.val (.str k')) := rfl
    have e2 : gIx (Dd.ky k' r' a' y').D (.int 2) = some (.val (.int a')) := rfl
    have e3 : gIx (Dd.ky k' r' a' y').D (.int 3) = some (.val (.str y')) := rfl
    have q1 : gNe (.str y') (.str y) = some (.val (.bl (!(y' == y)))) := og_ne rfl
    have q2 : gEq (.int a') (.int a) = some (.val (.bl (a' == a))) := og_eq rfl
    have hs : ((y' == y) && !(a' == a)) = false := hs
    have w : (!(y' == y) || (a' == a)) = true := by
      have := congrArg (fun b => !b) hs
      simpa [Bool.not_and] using this
    rw [← w]
    exact ev_orTF (ev_test (ev_bin (ev_bin (ev_var rfl) ev_c rfl rfl i0) ev_c rfl rfl m1) rfl) rfl (ev_orB (ev_test (ev_bin (ev_bin (ev_var rfl) ev_c rfl rfl e3) (ev_bin (ev_var rfl) ev_c rfl rfl j3) rfl rfl q1) rfl) (ev_test (ev_bin (ev_bin (ev_var rfl) ev_c rfl rfl e2) (ev_bin (ev_var rfl) ev_c rfl rfl j2) rfl rfl q2) rfl))
theorem ky_turn_on (p0 p1 b4 b5 b6 : Sl) (st : Option Bool) (ds : List Dd) (h0 : p0 = .sh (.lst (dlD ds))) (n : Nat) (k r : Str) (a : Int) (y : Str) (hb : ds[n]? = some (.ky k r a y)) (k' r' : Str) (a' : Int) (hd : (Dd.ky k' r' a' y).ok) (ha : ds[n + 1]? = some (.ky k' r' a' y))
    (hs : (a' == a) = false) : ∃ x2 x4 x5 x6, bKyE [p0, p1, .sh (stD st), .sh (.int ((n + 1 : Nat) : Int)), b4, b5, b6] = .ok (if fitS st (decide (a' > a)) = true then .nx else .rt (.int ((n + 1 : Nat) : Int))) [p0, p1, x2, .sh (.int ((n + 1 : Nat) : Int)), x4, x5, x6] ∧
      (fitS st (decide (a' > a)) = true → x2 = .sh (stD (some (decide (a' > a))))) := by
  subst h0
  have i1 := ix_dl (ds := ds) (i := ((n + 1 : Nat) : Int) - 1) (by omega) (by rw [show (((n + 1 : Nat) : Int) - 1).toNat = n by omega]; exact hb)
  have i2 := ix_dl (ds := ds) (i := ((n + 1 : Nat) : Int)) (by omega) (by rw [show (((n + 1 : Nat) : Int)).toNat = n + 1 by omega]; exact ha)
  have j2 : gIx (Dd.ky k r a y).D (.int 2) = some (.val (.int a)) := rfl
  have j3 : gIx (Dd.ky k r a y).D (.int 3) = some (.val (.str y)) := rfl
  have m1 := eq_move hd.1
  have i0 : gIx (Dd.ky k' r' a' y).D (.int 0) = some (.val (.str k')) := rfl
  have e2 : gIx (Dd.ky k' r' a' y).D (.int 2) = some (.val (.int a')) := rfl
  have e3 : gIx (Dd.ky k' r' a' y).D (.int 3) = some (.val (.str y)) := rfl
  have q1 : gNe (.str y) (.str y) = some (.val (.bl false)) := og_ne (deq_self 8 _ rfl)
  have q2 : gEq (.int a') (.int a) = some (.val (.bl (a' == a))) := og_eq rfl
  rw [hs] at q2
  have q3 : gCmp gt (.int a') (.int a) = some (.val (.bl (decide (a' > a)))) := rfl
  have s4 : (fSet 4 (fBin (fVar 0) (fBin (fVar 3) (fC (.int 1)) gSub) gIx)) [.sh (.lst (dlD ds)), p1, .sh (stD st), .sh (.int ((n + 1 : Nat) : Int)), b4, b5, b6] = .ok .nx [.sh (.lst (dlD ds)), p1, .sh (stD st), .sh (.int ((n + 1 : Nat) : Int)), .sh (Dd.ky k r a y).D, b5, b6] := ev_set (ev_bin (ev_var rfl) (ev_bin (ev_var rfl) ev_c rfl rfl og_subI) rfl rfl i1) rfl
  have s5 : (fSet 5 (fBin (fVar 0) (fVar 3) gIx)) [.sh (.lst (dlD ds)), p1, .sh (stD st), .sh (.int ((n + 1 : Nat) : Int)), .sh (Dd.ky k r a y).D, b5, b6] = .ok .nx [.sh (.lst (dlD ds)), p1, .sh (stD st), .sh (.int ((n + 1 : Nat) : Int)), .sh (Dd.ky k r a y).D, .sh (Dd.ky k' r' a' y).D, b6] := ev_set (ev_bin (ev_var rfl) (ev_var rfl) rfl rfl i2) rfl
  have t1 : (fOrT (fTest (fBin (fBin (fVar 5) (fC (.int 0)) gIx) (fC (.str "move")) gEq)) (fOrT (fTest (fBin (fBin (fVar 5) (fC (.int 3)) gIx) (fBin (fVar 4) (fC (.int 3)) gIx) gNe)) (fTest (fBin (fBin (fVar 5) (fC (.int 2)) gIx) (fBin (fVar 4) (fC (.int 2)) gIx) gEq)))) [.sh (.lst (dlD ds)), p1, .sh (stD st), .sh (.int ((n + 1 : Nat) : Int)), .sh (Dd.ky k r a y).D, .sh (Dd.ky k' r' a' y).D, b6] = .ok false [.sh (.lst (dlD ds)), p1, .sh (stD st), .sh (.int ((n + 1 : Nat) : Int)), .sh (Dd.ky k r a y).D, .sh (Dd.ky k' r' a' y).D, b6] :=
    ev_orTF (ev_test (ev_bin (ev_bin (ev_var rfl) ev_c rfl rfl i0) ev_c rfl rfl m1) rfl) rfl (ev_orTF (ev_test (ev_bin (ev_bin (ev_var rfl) ev_c rfl rfl e3) (ev_bin (ev_var rfl) ev_c rfl rfl j3) rfl rfl q1) rfl) rfl (ev_test (ev_bin (ev_bin (ev_var rfl) ev_c rfl rfl e2) (ev_bin (ev_var rfl) ev_c rfl rfl j2) rfl rfl q2) rfl))
  have s6 : (fSet 6 (fBin (fBin (fVar 5) (fC (.int 2)) gIx) (fBin (fVar 4) (fC (.int 2)) gIx) (gCmp gt))) [.sh (.lst (dlD ds)), p1, .sh (stD st), .sh (.int ((n + 1 : Nat) : Int)), .sh (Dd.ky k r a y).D, .sh (Dd.ky k' r' a' y).D, b6] = .ok .nx [.sh (.lst (dlD ds)), p1, .sh (stD st), .sh (.int ((n + 1 : Nat) : Int)), .sh (Dd.ky k r a y).D, .sh (Dd.ky k' r' a' y).D, .sh (.bl (decide (a' > a)))] :=
    ev_set (ev_bin (ev_bin (ev_var rfl) ev_c rfl rfl e2) (ev_bin (ev_var rfl) ev_c rfl rfl j2) rfl rfl q3) rfl
  cases st with
  | none =>
    have z1 : gIsNotN .non .non = some (.val (.bl false)) := rfl
    refine ⟨.sh (.bl (decide (a' > a))), .sh (Dd.ky k r a y).D, .sh (Dd.ky k' r' a' y).D, .sh (.bl (decide (a' > a))), ?_, fun _ => rfl⟩
    rw [if_pos (show fitS none (decide (a' > a)) = true from rfl)]
    unfold bKyE
    exact ev_seqK s4 (seqK_nx (ev_seqK s5 (seqK_nx (ev_seqK (ev_if t1 (ev_iteF rfl ev_next)) (seqK_nx (ev_seqK s6 (seqK_nx (ev_seqK (ev_if (ev_andTF (ev_test (ev_bin (ev_var rfl) ev_c rfl rfl z1) rfl) rfl) (ev_iteF rfl ev_next)) (seqK_nx (ev_set (ev_var rfl) rfl))))))))))
  | some s =>
    have z1 : gIsNotN (.bl s) .non = some (.val (.bl true)) := rfl
    have z2 : gNe (.bl (decide (a' > a))) (.bl s) = some (.val (.bl (!(decide (a' > a) == s)))) := og_ne rfl
    have t2 : (fAndT (fTest (fBin (fVar 2) (fC .non) gIsNotN)) (fTest (fBin (fVar 6) (fVar 2) gNe))) [.sh (.lst (dlD ds)), p1, .sh (stD (some s)), .sh (.int ((n + 1 : Nat) : Int)), .sh (Dd.ky k r a y).D, .sh (Dd.ky k' r' a' y).D, .sh (.bl (decide (a' > a)))] = .ok (!(decide (a' > a) == s)) [.sh (.lst (dlD ds)), p1, .sh (stD (some s)), .sh (.int ((n + 1 : Nat) : Int)), .sh (Dd.ky k r a y).D, .sh (Dd.ky k' r' a' y).D, .sh (.bl (decide (a' > a)))] :=
      ev_andTT (ev_test (ev_bin (ev_var rfl) ev_c rfl rfl z1) rfl) rfl (ev_test (ev_bin (ev_var rfl) (ev_var rfl) rfl rfl z2) rfl)
    have hfs : fitS (some s) (decide (a' > a)) = (decide (a' > a) == s) := rfl
    rw [hfs]
    cases hz : (decide (a' > a) == s) with
    | true =>
      rw [hz] at t2
      refine ⟨.sh (.bl (decide (a' > a))), .sh (Dd.ky k r a y).D, .sh (Dd.ky k' r' a' y).D, .sh (.bl (decide (a' > a))), ?_, fun _ => rfl⟩
      rw [if_pos rfl]
      unfold bKyE
      exact ev_seqK s4 (seqK_nx (ev_seqK s5 (seqK_nx (ev_seqK (ev_if t1 (ev_iteF rfl ev_next)) (seqK_nx (ev_seqK s6 (seqK_nx (ev_seqK (ev_if t2 (ev_iteF rfl ev_next)) (seqK_nx (ev_set (ev_var rfl) rfl))))))))))
    | false =>
      rw [hz] at t2
      refine ⟨.sh (stD (some s)), .sh (Dd.ky k r a y).D, .sh (Dd.ky k' r' a' y).D, .sh (.bl (decide (a' > a))), ?_, fun h => by cases h⟩
      rw [if_neg (by decide)]
      unfold bKyE
      exact ev_seqK s4 (seqK_nx (ev_seqK s5 (seqK_nx (ev_seqK (ev_if t1 (ev_iteF rfl ev_next)) (seqK_nx (ev_seqK s6 (seqK_nx (ev_seqK (ev_if t2 (ev_iteT rfl (ev_ret (ev_var rfl)))) seqK_rt))))))))
theorem ky_loop (ds : List Dd) (p1 : Sl) (y : Str) : ∀ (q : List Dd) (n : Nat) (st : Option Bool) (k r : Str) (a : Int) (b3 b4 b5 b6 : Sl), ds[n]? = some (.ky k r a y) → (∀ (j : Nat) d, q[j]? = some d → ds[n + 1 + j]? = some d) → (∀ d ∈ q, d.ok) →
    ∃ x2 x3 x4 x5 x6, loopD (sName 3) bKyE (rangeD ((n + 1 : Nat) : Int) q.length) [.sh (.lst (dlD ds)), p1, .sh (stD st), b3, b4, b5, b6] = .ok (if kyRun st (.ky k r a y) q = q.length then .nx else .rt (.int ((n + 1 + kyRun st (.ky k r a y) q : Nat) : Int))) [.sh (.lst (dlD ds)), p1, x2, x3, x4, x5, x6]
  | [], n, st, k, r, a, b3, b4, b5, b6, _, _, _ => ⟨.sh (stD st), b3, b4, b5, b6, by rw [if_pos (show kyRun st (.ky k r a y) [] = ([] : List Dd).length from rfl)]; rfl⟩
  | d :: q, n, st, k, r, a, b3, b4, b5, b6, hb, hc, hd => by
    have ha : ds[n + 1]? = some d := by have := hc 0 d rfl; simpa using this
    have hr : rangeD ((n + 1 : Nat) : Int) (d :: q).length = .int ((n + 1 : Nat) : Int) :: rangeD (((n + 1 + 1 : Nat)) : Int) q.length := by
      rw [List.length_cons, rangeD_cons3]
      have : (((n + 1 : Nat)) : Int) + 1 = ((n + 1 + 1 : Nat) : Int) := by omega
      rw [this]
    have hrun : kyRun st (.ky k r a y) (d :: q) = if kyStep st (.ky k r a y) d = true then 1 + kyRun (some (decide (d.at > a))) d q else 0 := rfl
    rw [hr]
    cases hs : (sameY (.ky k r a y) d && !(d.at == a)) with
    | false =>
      have hk : kyStep st (.ky k r a y) d = false := by
        unfold kyStep
        show ((sameY (.ky k r a y) d && !(d.at == a)) && _) = false
        rw [hs]; rfl
      obtain ⟨x4, x5, e⟩ := ky_turn_stop (.sh (.lst (dlD ds))) p1 (.sh (stD st)) b4 b5 b6 ds rfl n k r a y hb d (hd d List.mem_cons_self) ha hs
      refine ⟨.sh (stD st), .sh (.int ((n + 1 : Nat) : Int)), x4, x5, b6, ?_⟩
      have hrun' : kyRun st (.ky k r a y) (d :: q) = 0 := by rw [hrun, hk]; rfl
      rw [hrun', if_neg (show ¬ 0 = (d :: q).length by rw [List.length_cons]; omega)]
      exact loop_rt rfl e
    | true =>
      obtain ⟨hs1, hs2⟩ := Bool.and_eq_true_iff.mp hs
      cases d with
      | mv r' a' t' => cases hs1
      | ky k' r' a' y' =>
        have hy : y' = y := eq_of_beq hs1
        subst hy
        have hs2 : (!(a' == a)) = true := hs2
        have hne : (a' == a) = false := by simpa using hs2
        obtain ⟨x2, x4, x5, x6, e, hx⟩ := ky_turn_on (.sh (.lst (dlD ds))) p1 b4 b5 b6 st ds rfl n k r a y' hb k' r' a' (hd _ List.mem_cons_self) ha hne
        have hk : kyStep st (.ky k r a y') (.ky k' r' a' y') = fitS st (decide (a' > a)) := by
          show ((sameY (.ky k r a y') (.ky k' r' a' y') && !(a' == a)) && fitS st (decide (a' > a))) = fitS st (decide (a' > a))
          rw [hs1, hne]
          rfl
        by_cases hz : fitS st (decide (a' > a)) = true
        · rw [if_pos hz] at e
          rw [hx hz] at e
          have hrun' : kyRun st (.ky k r a y') (.ky k' r' a' y' :: q) = 1 + kyRun (some (decide (a' > a))) (.ky k' r' a' y') q := by rw [hrun, hk, if_pos hz]; rfl
          obtain ⟨y2, y3, y4, y5, y6, e2⟩ := ky_loop ds p1 y' q (n + 1) (some (decide (a' > a))) k' r' a' (.sh (.int ((n + 1 : Nat) : Int))) x4 x5 x6 ha (fun j c hj => by have := hc (j + 1) c (by simpa using hj); rw [show n + 1 + 1 + j = n + 1 + (j + 1) by omega]; exact this) (fun c hm => hd c (List.mem_cons_of_mem _ hm))
          refine ⟨y2, y3, y4, y5, y6, loop_nx rfl e ?_⟩
          rw [e2, hrun']
          by_cases hq : kyRun (some (decide (a' > a))) (.ky k' r' a' y') q = q.length
          · rw [if_pos hq, if_pos (by rw [List.length_cons]; omega)]
          · rw [if_neg hq, if_neg (by rw [List.length_cons]; omega)]
            have : n + 1 + 1 + kyRun (some (decide (a' > a))) (.ky k' r' a' y') q = n + 1 + (1 + kyRun (some (decide (a' > a))) (.ky k' r' a' y') q) := by omega
            rw [this]
        · rw [if_neg hz] at e
          have hrun' : kyRun st (.ky k r a y') (.ky k' r' a' y' :: q) = 0 := by rw [hrun, hk, if_neg hz]
          refine ⟨x2, .sh (.int ((n + 1 : Nat) : Int)), x4, x5, x6, ?_⟩
          rw [hrun', if_neg (show ¬ 0 = (Dd.ky k' r' a' y' :: q).length by rw [List.length_cons]; omega)]
          exact loop_rt rfl e
theorem loops_end_ok (ds : List Dd) (s : Nat) (k r : Str) (a : Int) (y : Str) (q : List Dd) (hs : ds.drop s = .ky k r a y :: q) (hd : ∀ d ∈ ds, d.ok) (hl : ds.length ≤ 5000) : m_loops_end [.lst (dlD ds), .int (s : Int)] = .ok (.int ((s + runLen (ds.drop s) : Nat) : Int)) := by
  have hlen : s + (q.length + 1) = ds.length := by
    have h1 : (ds.drop s).length = q.length + 1 := by rw [hs]; rfl
    rw [List.length_drop] at h1
    omega
  have hget : ∀ (j : Nat) d, (ds.drop s)[j]? = some d → ds[s + j]? = some d := fun j d h => by rwa [List.getElem?_drop] at h
  have a1 : ds[s]? = some (.ky k r a y) := by have := hget 0 (.ky k r a y) (by rw [hs]; rfl); simpa using this
  obtain ⟨x2, x3, x4, x5, x6, e⟩ := ky_loop ds (.sh (.int (s : Int))) y q s none k r a .no .no .no .no a1 (fun j d h => by have := hget (j + 1) d (by rw [hs]; simpa using h); rw [show s + 1 + j = s + (j + 1) by omega]; exact this) (fun d hm => hd d (List.mem_of_mem_drop (by rw [hs]; exact List.mem_cons_of_mem _ hm)))
  have hrun : runLen (ds.drop s) = 1 + kyRun none (.ky k r a y) q := by rw [hs]; rfl
  have g2 : gLen [.lst (dlD ds)] = some (.val (.int (ds.length : Int))) := by
    show some (DV.val (.int _)) = _
    rw [dlD_len]
  have g5 : (s : Int) + 1 = ((s + 1 : Nat) : Int) := by omega
  have g6 : small62 ((s : Int) + 1) = true := og_small (by omega) (by omega)
  have g7 : small62 (ds.length : Int) = true := og_small (by omega) (by omega)
  have hn : ((ds.length : Int) - ((s : Int) + 1)).toNat = q.length := by omega
  rw [hrun]
  unfold bKyE at e
  unfold m_loops_end b_loops_end
  have lp : ∀ S R, loopD (sName 3) S (rangeD ((s + 1 : Nat) : Int) q.length) [.sh (.lst (dlD ds)), .sh (.int (s : Int)), .sh .non, .no, .no, .no, .no] = R → (fFor (fRng2 (fCons (fBin (fVar 1) (fC (.int 1)) gAdd) (fCons (fCB (fCons (fVar 0) fNil) gLen) fNil))) (sName 3) S) [.sh (.lst (dlD ds)), .sh (.int (s : Int)), .sh .non, .no, .no, .no, .no] = R := fun S R h => by
    refine ev_for (ev_rng2 (ev_cons (ev_bin (ev_var rfl) ev_c rfl rfl og_addI) (ev_cons (ev_cb (ev_cons (ev_var rfl) ev_nil) rfl g2) ev_nil)) rfl g6 g7) ?_
    rw [hn, g5]
    exact h
  have lp := lp _ _ e
  by_cases hz : kyRun none (.ky k r a y) q = q.length
  · rw [if_pos hz] at lp
    have : s + (1 + kyRun none (.ky k r a y) q) = ds.length := by omega
    rw [this]
    apply ev_run
    apply ev_seqK
    · exact ev_set ev_c rfl
    apply seqK_nx
    apply ev_seqK
    · exact lp
    apply seqK_nx
    exact ev_ret (ev_cb (ev_cons (ev_var rfl) ev_nil) rfl g2)
  · rw [if_neg hz] at lp
    have : s + (1 + kyRun none (.ky k r a y) q) = s + 1 + kyRun none (.ky k r a y) q := by omega
    rw [this]
    apply ev_run
    apply ev_seqK
    · exact ev_set ev_c rfl
    apply seqK_nx
    apply ev_seqK
    · exact lp
    exact seqK_rt
theorem pass_end_ok (ds : List Dd) (s : Nat) (hs : s < ds.length) (hd : ∀ d ∈ ds, d.ok) (hl : ds.length ≤ 5000) : m_pass_end [.lst (dlD ds), .int (s : Int)] = .ok (.int ((s + runLen (ds.drop s) : Nat) : Int)) := by
  have a1 : ds[s]? = some ds[s] := List.getElem?_eq_getElem hs
  have hdr : ds.drop s = ds[s] :: ds.drop (s + 1) := List.drop_eq_getElem_cons hs
  have i1 := ix_dl (ds := ds) (i := (s : Int)) (by omega) (by rw [show ((s : Int)).toNat = s by omega]; exact a1)
  have hok := hd _ (List.getElem_mem hs)
  unfold m_pass_end b_pass_end
  generalize hz : ds[s] = z at *
  cases z with
  | mv r a t =>
    have g := moves_end_ok ds s r a t _ hdr hd hl
    have i0 : gIx (Dd.mv r a t).D (.int 0) = some (.val (.str "move")) := rfl
    have m1 := eq_move'
    apply ev_run
    apply ev_seqK
    · exact ev_if (ev_test (ev_bin (ev_bin (ev_bin (ev_var rfl) (ev_var rfl) rfl rfl i1) ev_c rfl rfl i0) ev_c rfl rfl m1) rfl) (ev_iteT rfl (ev_ret (ev_call (ev_cons (ev_var rfl) (ev_cons (ev_var rfl) ev_nil)) rfl rfl g)))
    exact seqK_rt
  | ky k r a y =>
    have g := loops_end_ok ds s k r a y _ hdr hd hl
    have i0 : gIx (Dd.ky k r a y).D (.int 0) = some (.val (.str k)) := rfl
    have m1 := eq_move hok.1
    apply ev_run
    apply ev_seqK
    · exact ev_if (ev_test (ev_bin (ev_bin (ev_bin (ev_var rfl) (ev_var rfl) rfl rfl i1) ev_c rfl rfl i0) ev_c rfl rfl m1) rfl) (ev_iteF rfl ev_next)
    apply seqK_nx
    exact ev_ret (ev_call (ev_cons (ev_var rfl) (ev_cons (ev_var rfl) ev_nil)) rfl rfl g)
end Lw
namespace Lw
open PySem L2 DL
noncomputable def cuts : Nat → List Dd → List (List Dd)
  | 0, _ => []
  | _ + 1, [] => []
  | n + 1, d :: q => (d :: q).take (runLen (d :: q)) :: cuts n ((d :: q).drop (runLen (d :: q)))
theorem cuts_flat : ∀ (n : Nat) (ds : List Dd), ds.length ≤ n → (cuts n ds).flatten = ds
  | 0, ds, h => by
    have : ds = [] := List.eq_nil_of_length_eq_zero (by omega)
    subst this; rfl
  | n + 1, [], _ => rfl
  | n + 1, d :: q, h => by
    show (d :: q).take (runLen (d :: q)) ++ (cuts n ((d :: q).drop (runLen (d :: q)))).flatten = d :: q
    have hp := runLen_pos (d :: q) (by simp)
    rw [cuts_flat n _ (by rw [List.length_drop]; omega), List.take_append_drop]
theorem cuts_pass : ∀ (n : Nat) (ds : List Dd), ∀ c ∈ cuts n ds, passB c = true
  | 0, ds, c, h => by cases h
  | n + 1, [], c, h => by cases h
  | n + 1, d :: q, c, h => by
    rcases List.mem_cons.mp (show c ∈ (d :: q).take (runLen (d :: q)) :: cuts n ((d :: q).drop (runLen (d :: q))) from h) with z | z
    · rw [z]
      exact (pass_iff (d :: q) _ (runLen_pos _ (by simp)) (runLen_le _)).mpr (Nat.le_refl _)
    · exact cuts_pass n _ c z
theorem cuts_mem : ∀ (n : Nat) (ds : List Dd), ∀ c ∈ cuts n ds, ∀ d ∈ c, d ∈ ds
  | 0, ds, c, h, _, _ => by cases h
  | n + 1, [], c, h, _, _ => by cases h
  | n + 1, d :: q, c, h, e, he => by
    rcases List.mem_cons.mp (show c ∈ (d :: q).take (runLen (d :: q)) :: cuts n ((d :: q).drop (runLen (d :: q))) from h) with z | z
    · rw [z] at he; exact List.mem_of_mem_take he
    · exact List.mem_of_mem_drop (cuts_mem n _ c z e he)
theorem cuts_few : ∀ (n : Nat) (ds : List Dd), (cuts n ds).length ≤ ds.length
  | 0, ds => Nat.zero_le _
  | n + 1, [] => Nat.zero_le _
  | n + 1, d :: q => by
    show (cuts n ((d :: q).drop (runLen (d :: q)))).length + 1 ≤ (d :: q).length
    have := cuts_few n ((d :: q).drop (runLen (d :: q)))
    rw [List.length_drop] at this
    have hp := runLen_pos (d :: q) (by simp)
    have hl := runLen_le (d :: q)
    omega
noncomputable def cD (fs : List (List Dd)) : List D := fs.map fun c => .lst (dlD c)
theorem cut_eq (ds : List Dd) (s e : Nat) (h1 : s ≤ e) (h2 : e ≤ ds.length) : cutD (dlD ds) (some (s : Int)) (some (e : Int)) = dlD ((ds.drop s).take (e - s)) := by
  unfold cutD
  rw [HT.sIx_nat, HT.sIx_nat, dlD_len, Nat.min_eq_left (show s ≤ ds.length by omega), Nat.min_eq_left h2]
  unfold dlD
  rw [List.map_take, List.map_drop]
noncomputable def cP : DM Bool := (fTest (fBin (fVar 2) (fCB (fCons (fVar 0) fNil) gLen) (gCmp lt)))
noncomputable def bP : DM Fl := (fSeq (fSet 3 (fCall 2 (fCons (fVar 0) (fCons (fVar 2) fNil)) m_pass_end))
    (fSeq (fApp' 1 (fSlice (fVar 0) (fPart (fVar 2)) (fPart (fVar 3))))
    (fSet 2 (fVar 3))))
theorem wh_go {c : DM Bool} {S : DM Fl} {n : Nat} {δ δ1 δ2 : DSt} {R : Rs Fl} (h : c δ = .ok true δ1) (hb : S δ1 = .ok .nx δ2) (hr : whileD c S n δ2 = R) : whileD c S (n + 1) δ = R := by
  unfold whileD DM.bd; simp only [h, if_true, hb]; exact hr
theorem wh_stop {c : DM Bool} {S : DM Fl} {n : Nat} {δ δ1 : DSt} (h : c δ = .ok false δ1) : whileD c S (n + 1) δ = .ok .nx δ1 := by
  unfold whileD DM.bd; simp only [h, Bool.false_eq_true, if_false]; rfl
theorem passes_loop (ds : List Dd) (hd : ∀ d ∈ ds, d.ok) (hl : ds.length ≤ 4000) : ∀ (m fuel s : Nat) (fs : List (List Dd)) (b3 : Sl), s ≤ ds.length → ds.length - s ≤ m → m < fuel → fs.length + (ds.length - s) ≤ 5000 →
    ∃ x3, whileD cP bP fuel [.sh (.lst (dlD ds)), .ow (cD fs), .sh (.int (s : Int)), b3] = .ok .nx [.sh (.lst (dlD ds)), .ow (cD (fs ++ cuts m (ds.drop s))), .sh (.int (ds.length : Int)), x3]
  | m, 0, s, fs, b3, _, _, h, _ => absurd h (Nat.not_lt_zero _)
  | m, fuel + 1, s, fs, b3, hs, hm, hf, hq => by
    have g2 : gLen [.lst (dlD ds)] = some (.val (.int (ds.length : Int))) := by
      show some (DV.val (.int _)) = _
      rw [dlD_len]
    have q1 : gCmp lt (.int (s : Int)) (.int (ds.length : Int)) = some (.val (.bl (decide ((s : Int) < (ds.length : Int))))) := rfl
    have c1 : cP [.sh (.lst (dlD ds)), .ow (cD fs), .sh (.int (s : Int)), b3] = .ok (decide ((s : Int) < (ds.length : Int))) [.sh (.lst (dlD ds)), .ow (cD fs), .sh (.int (s : Int)), b3] := ev_test (ev_bin (ev_var rfl) (ev_cb (ev_cons (ev_var rfl) ev_nil) rfl g2) rfl rfl q1) rfl
    by_cases h : s < ds.length
    · rw [decide_eq_true (show (s : Int) < (ds.length : Int) by omega)] at c1
      obtain ⟨m', rfl⟩ : ∃ m', m = m' + 1 := ⟨m - 1, by omega⟩
      have hne : ds.drop s ≠ [] := by
        intro z
        have := congrArg List.length z
        rw [List.length_drop] at this
        simp at this
        omega
      have hp := runLen_pos (ds.drop s) hne
      have hle := runLen_le (ds.drop s)
      rw [List.length_drop] at hle
      have ge := pass_end_ok ds s h hd (by omega)
      generalize hn : runLen (ds.drop s) = n at *
      have gs : gSlice (.lst (dlD ds)) (some (s : Int)) (some ((s + n : Nat) : Int)) = some (.own (dlD ((ds.drop s).take n))) := by
        rw [og_slL, cut_eq ds s (s + n) (by omega) (by omega), Nat.add_sub_cancel_left]
      obtain ⟨x3, e⟩ := passes_loop ds hd hl m' fuel (s + n) (fs ++ [(ds.drop s).take n]) (.sh (.int ((s + n : Nat) : Int))) (by omega) (by omega) (by omega) (by rw [List.length_append]; show fs.length + 1 + _ ≤ _; omega)
      have s3 : (fSet 3 (fCall 2 (fCons (fVar 0) (fCons (fVar 2) fNil)) m_pass_end)) [.sh (.lst (dlD ds)), .ow (cD fs), .sh (.int (s : Int)), b3] = .ok .nx [.sh (.lst (dlD ds)), .ow (cD fs), .sh (.int (s : Int)), .sh (.int ((s + n : Nat) : Int))] := ev_set (ev_call (ev_cons (ev_var rfl) (ev_cons (ev_var rfl) ev_nil)) rfl rfl ge) rfl
      have s1 : (fApp' 1 (fSlice (fVar 0) (fPart (fVar 2)) (fPart (fVar 3)))) [.sh (.lst (dlD ds)), .ow (cD fs), .sh (.int (s : Int)), .sh (.int ((s + n : Nat) : Int))] = .ok .nx [.sh (.lst (dlD ds)), .ow (cD fs ++ [.lst (dlD ((ds.drop s).take n))]), .sh (.int (s : Int)), .sh (.int ((s + n : Nat) : Int))] :=
        ev_app (i := 1) (es := cD fs) (ds := cD fs) rfl (ev_slice (ev_var rfl) (ev_part (ev_var rfl) rfl) (ev_part (ev_var rfl) rfl) rfl gs) rfl rfl (by unfold cD; rw [List.length_map]; unfold sizeLine; omega)
      have hc : cD (fs ++ [(ds.drop s).take n]) = cD fs ++ [.lst (dlD ((ds.drop s).take n))] := by unfold cD; rw [List.map_append]; rfl
      rw [hc] at e
      have hcut : cuts (m' + 1) (ds.drop s) = (ds.drop s).take n :: cuts m' (ds.drop (s + n)) := by
        rw [← List.drop_drop, ← hn]
        cases hz : ds.drop s with
        | nil => exact absurd hz hne
        | cons d q => rfl
      refine ⟨x3, ?_⟩
      rw [hcut, show fs ++ (ds.drop s).take n :: cuts m' (ds.drop (s + n)) = fs ++ [(ds.drop s).take n] ++ cuts m' (ds.drop (s + n)) by simp]
      refine wh_go c1 ?_ e
      exact ev_seqK s3 (seqK_nx (ev_seqK s1 (seqK_nx (ev_set (ev_var rfl) rfl))))
    · rw [decide_eq_false (show ¬ (s : Int) < (ds.length : Int) by omega)] at c1
      have hse : s = ds.length := by omega
      subst hse
      refine ⟨b3, ?_⟩
      rw [List.drop_length, show cuts m ([] : List Dd) = [] by cases m <;> rfl, List.append_nil]
      exact wh_stop c1
theorem passes_ok (ds : List Dd) (hd : ∀ d ∈ ds, d.ok) (hl : ds.length ≤ 4000) : m_passes [.lst (dlD ds)] = .own (cD (cuts ds.length ds)) := by
  obtain ⟨x3, e⟩ := passes_loop ds hd hl ds.length 4096 0 [] .no (Nat.zero_le _) (by omega) (by omega) (by show 0 + _ ≤ _; omega)
  rw [List.nil_append, List.drop_zero] at e
  unfold cP bP at e
  unfold m_passes b_passes
  apply ev_runO
  apply ev_seqK
  · exact ev_setO (ev_lst ev_nil rfl (Nat.le_of_ble_eq_true rfl))
  apply seqK_nx
  apply ev_seqK
  · exact ev_set ev_c rfl
  apply seqK_nx
  apply ev_seqK
  · exact e
  apply seqK_nx
  exact ev_retS (ev_slot rfl) rfl
end Lw
namespace Lw
open PySem L2 DL
theorem dl_self (ds : List Dd) : deqF 8 (.lst (dlD ds)) (.lst (dlD ds)) = some true := by
  refine deq_self 8 _ ?_
  show (dlD ds).all (okD 7) = true
  unfold dlD
  rw [List.all_map]
  exact List.all_eq_true.mpr fun d _ => by cases d <;> rfl
theorem le_sum : ∀ {l : List Nat} {a : Nat}, a ∈ l → a ≤ l.sum
  | b :: l, a, h => by
    rw [List.sum_cons]
    rcases List.mem_cons.mp h with z | z
    · omega
    · have := le_sum z; omega
noncomputable def cL (fs : List (List Dd)) : List (List D) := fs.map dlD
theorem cL_lst (fs : List (List Dd)) : (cL fs).map D.lst = cD fs := by unfold cL cD; rw [List.map_map]; rfl
theorem dl_flat (ds : List Dd) : (dlD ds).all flatD = true := by
  unfold dlD
  rw [List.all_map]
  exact List.all_eq_true.mpr fun d _ => by cases d <;> rfl
noncomputable def bPL : DM Fl := (fSeq (fSet 3 (fCall 2 (fCons (fVar 0) (fCons (fVar 2) fNil)) m_pass_end))
    (fSeq (fAppW 1 (fSlice (fVar 0) (fPart (fVar 2)) (fPart (fVar 3))))
    (fSet 2 (fVar 3))))
theorem passesL_loop (ds : List Dd) (hd : ∀ d ∈ ds, d.ok) (hl : ds.length ≤ 4000) : ∀ (m fuel s : Nat) (fs : List (List Dd)) (b3 : Sl), s ≤ ds.length → ds.length - s ≤ m → m < fuel → fs.length + (ds.length - s) ≤ 5000 →
    ∃ x3, whileD cP bPL fuel [.sh (.lst (dlD ds)), .nw (cL fs), .sh (.int (s : Int)), b3] = .ok .nx [.sh (.lst (dlD ds)), .nw (cL (fs ++ cuts m (ds.drop s))), .sh (.int (ds.length : Int)), x3]
  | m, 0, s, fs, b3, _, _, h, _ => absurd h (Nat.not_lt_zero _)
  | m, fuel + 1, s, fs, b3, hs, hm, hf, hq => by
    have g2 : gLen [.lst (dlD ds)] = some (.val (.int (ds.length : Int))) := by
      show some (DV.val (.int _)) = _
      rw [dlD_len]
    have q1 : gCmp lt (.int (s : Int)) (.int (ds.length : Int)) = some (.val (.bl (decide ((s : Int) < (ds.length : Int))))) := rfl
    have c1 : cP [.sh (.lst (dlD ds)), .nw (cL fs), .sh (.int (s : Int)), b3] = .ok (decide ((s : Int) < (ds.length : Int))) [.sh (.lst (dlD ds)), .nw (cL fs), .sh (.int (s : Int)), b3] := ev_test (ev_bin (ev_var rfl) (ev_cb (ev_cons (ev_var rfl) ev_nil) rfl g2) rfl rfl q1) rfl
    by_cases h : s < ds.length
    · rw [decide_eq_true (show (s : Int) < (ds.length : Int) by omega)] at c1
      obtain ⟨m', rfl⟩ : ∃ m', m = m' + 1 := ⟨m - 1, by omega⟩
      have hne : ds.drop s ≠ [] := by
        intro z
        have := congrArg List.length z
        rw [List.length_drop] at this
        simp at this
        omega
      have hp := runLen_pos (ds.drop s) hne
      have hle := runLen_le (ds.drop s)
      rw [List.length_drop] at hle
      have ge := pass_end_ok ds s h hd (by omega)
      generalize hn : runLen (ds.drop s) = n at *
      have gs : gSlice (.lst (dlD ds)) (some (s : Int)) (some ((s + n : Nat) : Int)) = some (.own (dlD ((ds.drop s).take n))) := by
        rw [og_slL, cut_eq ds s (s + n) (by omega) (by omega), Nat.add_sub_cancel_left]
      obtain ⟨x3, e⟩ := passesL_loop ds hd hl m' fuel (s + n) (fs ++ [(ds.drop s).take n]) (.sh (.int ((s + n : Nat) : Int))) (by omega) (by omega) (by omega) (by rw [List.length_append]; show fs.length + 1 + _ ≤ _; omega)
      have s3 : (fSet 3 (fCall 2 (fCons (fVar 0) (fCons (fVar 2) fNil)) m_pass_end)) [.sh (.lst (dlD ds)), .nw (cL fs), .sh (.int (s : Int)), b3] = .ok .nx [.sh (.lst (dlD ds)), .nw (cL fs), .sh (.int (s : Int)), .sh (.int ((s + n : Nat) : Int))] := ev_set (ev_call (ev_cons (ev_var rfl) (ev_cons (ev_var rfl) ev_nil)) rfl rfl ge) rfl
      have s1 : (fAppW 1 (fSlice (fVar 0) (fPart (fVar 2)) (fPart (fVar 3)))) [.sh (.lst (dlD ds)), .nw (cL fs), .sh (.int (s : Int)), .sh (.int ((s + n : Nat) : Int))] = .ok .nx [.sh (.lst (dlD ds)), .nw (cL fs ++ [dlD ((ds.drop s).take n)]), .sh (.int (s : Int)), .sh (.int ((s + n : Nat) : Int))] :=
        ev_appW (i := 1) (xss := cL fs) (δ1 := [.sh (.lst (dlD ds)), .no, .sh (.int (s : Int)), .sh (.int ((s + n : Nat) : Int))]) rfl (ev_slice (δ := [.sh (.lst (dlD ds)), .no, .sh (.int (s : Int)), .sh (.int ((s + n : Nat) : Int))]) (ev_var rfl) (ev_part (ev_var rfl) rfl) (ev_part (ev_var rfl) rfl) rfl gs) (by unfold cL; rw [List.length_map]; unfold sizeLine; omega)
      have hc : cL (fs ++ [(ds.drop s).take n]) = cL fs ++ [dlD ((ds.drop s).take n)] := by unfold cL; rw [List.map_append]; rfl
      rw [hc] at e
      have hcut : cuts (m' + 1) (ds.drop s) = (ds.drop s).take n :: cuts m' (ds.drop (s + n)) := by
        rw [← List.drop_drop, ← hn]
        cases hz : ds.drop s with
        | nil => exact absurd hz hne
        | cons d q => rfl
      refine ⟨x3, ?_⟩
      rw [hcut, show fs ++ (ds.drop s).take n :: cuts m' (ds.drop (s + n)) = fs ++ [(ds.drop s).take n] ++ cuts m' (ds.drop (s + n)) by simp]
      refine wh_go c1 ?_ e
      exact ev_seqK s3 (seqK_nx (ev_seqK s1 (seqK_nx (ev_set (ev_var rfl) rfl))))
    · rw [decide_eq_false (show ¬ (s : Int) < (ds.length : Int) by omega)] at c1
      have hse : s = ds.length := by omega
      subst hse
      refine ⟨b3, ?_⟩
      rw [List.drop_length, show cuts m ([] : List Dd) = [] by cases m <;> rfl, List.append_nil]
      exact wh_stop c1
theorem passesL_ok (ds : List Dd) (hd : ∀ d ∈ ds, d.ok) (hl : ds.length ≤ 4000) : m_passesL [.lst (dlD ds)] = some (cL (cuts ds.length ds)) := by
  obtain ⟨x3, e⟩ := passesL_loop ds hd hl ds.length 4096 0 [] .no (Nat.zero_le _) (by omega) (by omega) (by show 0 + _ ≤ _; omega)
  rw [List.nil_append, List.drop_zero] at e
  unfold cP bPL at e
  unfold m_passesL b_passesL
  refine ev_rnL (i := 1) (δ1 := [.sh (.lst (dlD ds)), .nw (cL (cuts ds.length ds)), .sh (.int (ds.length : Int)), x3]) ?_ rfl
  refine ev_sqR (δ1 := [.sh (.lst (dlD ds)), .nw [], .no, .no]) (ev_stW (i := 1) (ev_lst ev_nil rfl (Nat.le_of_ble_eq_true rfl))) ?_
  refine ev_sqR (δ1 := [.sh (.lst (dlD ds)), .nw [], .sh (.int 0), .no]) (ev_set ev_c rfl) ?_
  exact ev_sqR e (ev_rtW rfl)
noncomputable def bJ : DM Fl := (fSeq (fIf (fOrT (fNotT (fTest (fUn (fVar 5) (gIs "list")))) (fNotT (fTest (fCB (fCons (fLC (fIt (fVar 5) gLstItems) (sName 0) (.ret true) (fUn (fVar 0) (gIs "tuple")) [none]) fNil) gAll)))) (fRet (fC (.bl false))) fNext)
    (fSeq (fIf (fNotT (fTest (fCall 1 (fCons (fVar 5) fNil) m_makes_pass))) (fRet (fC (.bl false))) fNext)
    (fSetO 4 (fBin (fVar 4) (fVar 5) gAdd))))
theorem tup_comp (c : List Dd) (hl : c.length ≤ 1000) : compD (sName 0) (.ret true) (fUn (fVar 0) (gIs "tuple")) (dlD c) [.no] [] = some ((dlD c).map fun _ => D.bl true) := by
  rw [comp_map (g := fun _ => .bl true) _ .no (by rw [dlD_len]; unfold sizeLine; omega) ?_]
  intro d hd
  obtain ⟨e, _, rfl⟩ := List.mem_map.mp hd
  cases e <;> rfl
theorem tup_all (ds : List D) : gAll [.lst (ds.map fun _ => D.bl true)] = some (.val (.bl true)) := by
  have := all_map' (fun _ => true) ds
  rw [this, (List.all_eq_true.mpr fun _ _ => rfl : ds.all (fun _ => true) = true)]
theorem join_loop (p0 p1 p2 p3 p6 : Sl) : ∀ (cs : List (List Dd)) (acc : List Dd) (b5 : Sl), (∀ c ∈ cs, passB c = true ∧ ∀ d ∈ c, d.ok) → acc.length + cs.flatten.length ≤ 1000 →
    ∃ x5, loopD (sName 5) bJ (cD cs) [p0, p1, p2, p3, .ow (dlD acc), b5, p6] = .ok .nx [p0, p1, p2, p3, .ow (dlD (acc ++ cs.flatten)), x5, p6]
  | [], acc, b5, _, _ => ⟨b5, by rw [List.flatten_nil, List.append_nil]; rfl⟩
  | c :: cs, acc, b5, h, hl => by
    rw [List.flatten_cons, List.length_append] at hl
    obtain ⟨h1, h2⟩ := h c List.mem_cons_self
    have gp := makes_pass_ok c h2 (by omega)
    rw [h1] at gp
    have t1 : gIs "list" (.lst (dlD c)) = some (.val (.bl true)) := rfl
    have gi : gLstItems (.lst (dlD c)) = some (dlD c) := rfl
    have gc := tup_comp c (by omega)
    have gq := tup_all (dlD c)
    have ga : gAdd (.lst (dlD acc)) (.lst (dlD c)) = some (.own (dlD (acc ++ c))) := by
      rw [og_addL (by rw [dlD_len, dlD_len]; unfold sizeLine; omega), dlD_app]
    obtain ⟨x5, e⟩ := join_loop p0 p1 p2 p3 p6 cs (acc ++ c) (.sh (.lst (dlD c))) (fun c' hc => h c' (List.mem_cons_of_mem _ hc)) (by rw [List.length_append]; omega)
    refine ⟨x5, ?_⟩
    rw [List.flatten_cons, ← List.append_assoc]
    refine loop_nx (δ2 := [p0, p1, p2, p3, .ow (dlD (acc ++ c)), .sh (.lst (dlD c)), p6]) rfl ?_ e
    unfold bJ
    refine ev_seqK (ev_if (ev_orTF (ev_notT (ev_test (ev_un (ev_var rfl) rfl t1) rfl)) rfl (ev_notT (ev_test (ev_cb (ev_cons (ev_lc (ev_it (ev_var rfl) rfl gi) gc) ev_nil) rfl gq) rfl))) (ev_iteF rfl ev_next)) (seqK_nx ?_)
    refine ev_seqK (ev_if (ev_notT (ev_test (ev_call (ev_cons (ev_var rfl) ev_nil) rfl rfl gp) rfl)) (ev_iteF rfl ev_next)) (seqK_nx ?_)
    exact ev_setO (ev_bin (ev_slot rfl) (ev_var rfl) rfl rfl ga)
theorem thaw7 (a b c : D) (xss : List (List D)) (d4 d5 d6 s0 s1 s2 s3 s4 s5 s6 : Sl) : (thawL [0, 1, 2, 3] [.sh a, .sh b, .sh c, .nw xss, d4, d5, d6] 0 [s0, s1, s2, s3, s4, s5, s6]).set 3 (.nw xss) = [.sh a, .sh b, .sh c, .nw xss, flatS s4, flatS s5, flatS s6] := rfl
theorem law18 (ns : List Int) : m_law [.scr ns] = .ok (.bl true) := by
  have c0 := m_cell ns 0 (by omega)
  obtain ⟨ds, hd, hl, e⟩ := some_deeds_ok ns (cellv ns 0 % 61) (by omega) (by omega)
  have hl60 : ds.length ≤ 60 := by omega
  have g1 := passes_ok ds hd (by omega)
  have g1L := passesL_ok ds hd (by omega)
  have g0 : m_passes [.lst []] = .own [] := passes_ok [] (fun d h => by cases h) (Nat.zero_le _)
  have gl : gList [.lst (dlD ds)] = some (.own (dlD ds)) := rfl
  have hf := cuts_flat ds.length ds (Nat.le_refl _)
  have hfew := cuts_few ds.length ds
  have hcl : (cL (cuts ds.length ds)).length = (cuts ds.length ds).length := by unfold cL; rw [List.length_map]
  have n1 : gLen [.lst (cD (cuts ds.length ds))] = some (.val (.int ((cuts ds.length ds).length : Int))) := by
    show some (DV.val (.int _)) = _
    unfold cD
    rw [List.length_map]
  have t1 : gIs "list" (.lst (cD (cuts ds.length ds))) = some (.val (.bl true)) := rfl
  have gi : gLstItems (.lst (cD (cuts ds.length ds))) = some (cD (cuts ds.length ds)) := rfl
  have ge : gEq (.lst (dlD ds)) (.lst (dlD ds)) = some (.val (.bl true)) := og_eq (dl_self ds)
  have gn : gNe (.lst (dlD ds)) (.lst (dlD ds)) = some (.val (.bl false)) := og_ne (dl_self ds)
  have g00 : gNe (.lst []) (.lst []) = some (.val (.bl false)) := og_ne (deq_self 8 _ rfl)
  have ni : gEq (.int ((cuts ds.length ds).length : Int)) (.int ((cuts ds.length ds).length : Int)) = some (.val (.bl true)) := og_eq (deq_self 8 _ rfl)
  have hsm : ∀ xs ∈ cL (cuts ds.length ds), xs.length < sizeLine := fun xs hx => by
    obtain ⟨c, hc, rfl⟩ := List.mem_map.mp hx
    have h1 : c.length ≤ (cuts ds.length ds).flatten.length := by
      rw [List.length_flatten]
      exact le_sum (List.mem_map.mpr ⟨c, hc, rfl⟩)
    rw [hf] at h1
    rw [dlD_len]
    unfold sizeLine
    omega
  generalize hcs : cuts ds.length ds = cs at *
  obtain ⟨x5, ej⟩ := join_loop (.sh (.scr ns)) (.sh (.lst (dlD ds))) (.sh (.lst (dlD ds))) (.sh (.lst (cD cs))) .no cs [] .no (fun c hc => ⟨cuts_pass _ _ c (by rw [hcs]; exact hc), fun d hm => hd d (cuts_mem _ _ c (by rw [hcs]; exact hc) d hm)⟩) (by rw [hf]; show 0 + _ ≤ _; omega)
  rw [hf, List.nil_append] at ej
  have hfl : flatS (.ow (dlD ds)) = .ow (dlD ds) := by
    show (if (dlD ds).all flatD = true then Sl.ow (dlD ds) else .no) = _
    rw [if_pos (dl_flat ds)]
  unfold m_law b_law
  have A1 : (fSet 1 (fCall 2 (fCons (fVar 0) (fCons (fBin (fCall 2 (fCons (fVar 0) (fCons (fC (.int 0)) fNil)) m_cell_at) (fC (.int 61)) gMod) fNil)) m_some_deeds)) [.sh (.scr ns), .no, .no, .no, .no, .no, .no] = .ok .nx [.sh (.scr ns), .sh (.lst (dlD ds)), .no, .no, .no, .no, .no] :=
    ev_set (ev_callO (ev_cons (ev_var rfl) (ev_cons (ev_bin (ev_call (ev_cons (ev_var rfl) (ev_cons ev_c ev_nil)) rfl rfl c0) ev_c rfl rfl (og_mod rfl)) ev_nil)) rfl rfl e) rfl
  have A2 : (fSet 2 (fCB (fCons (fVar 1) fNil) gList)) [.sh (.scr ns), .sh (.lst (dlD ds)), .no, .no, .no, .no, .no] = .ok .nx [.sh (.scr ns), .sh (.lst (dlD ds)), .sh (.lst (dlD ds)), .no, .no, .no, .no] :=
    ev_set (ev_cb (ev_cons (ev_var rfl) ev_nil) rfl gl) rfl
  have A3 : (fCallL 3 1 (fCons (fVar 2) fNil) m_passesL) [.sh (.scr ns), .sh (.lst (dlD ds)), .sh (.lst (dlD ds)), .no, .no, .no, .no] = .ok .nx [.sh (.scr ns), .sh (.lst (dlD ds)), .sh (.lst (dlD ds)), .nw (cL cs), .no, .no, .no] :=
    ev_clL (i := 3) (ev_cons (ev_var rfl) ev_nil) rfl rfl g1L
  have A4 : (fLendN 3 [0, 1, 2, 3] (fIf (fOrT (fTest (fBin (fVar 2) (fVar 1) gNe)) (fNotT (fTest (fUn (fVar 3) (gIs "list"))))) (fRet (fC (.bl false))) fNext)) [.sh (.scr ns), .sh (.lst (dlD ds)), .sh (.lst (dlD ds)), .nw (cL cs), .no, .no, .no] = .ok .nx [.sh (.scr ns), .sh (.lst (dlD ds)), .sh (.lst (dlD ds)), .nw (cL cs), .no, .no, .no] := by
    refine (ev_lendN (i := 3) (xss := cL cs) (δ1 := [.sh (.scr ns), .sh (.lst (dlD ds)), .sh (.lst (dlD ds)), .sh (.lst (cD cs)), .no, .no, .no]) rfl ?_).trans rfl
    rw [cL_lst]
    exact ev_if (ev_orTF (ev_test (ev_bin (ev_var rfl) (ev_var rfl) rfl rfl gn) rfl) rfl (ev_notT (ev_test (ev_un (ev_var rfl) rfl t1) rfl))) (ev_iteF rfl ev_next)
  have A5 : (fSetO 4 (fLst fNil)) [.sh (.scr ns), .sh (.lst (dlD ds)), .sh (.lst (dlD ds)), .nw (cL cs), .no, .no, .no] = .ok .nx [.sh (.scr ns), .sh (.lst (dlD ds)), .sh (.lst (dlD ds)), .nw (cL cs), .ow [], .no, .no] :=
    ev_setO (ev_lst ev_nil rfl (Nat.le_of_ble_eq_true rfl))
  have A6 : (fLendN 3 [0, 1, 2, 3] (fFor (fIt (fVar 3) gLstItems) (sName 5) bJ)) [.sh (.scr ns), .sh (.lst (dlD ds)), .sh (.lst (dlD ds)), .nw (cL cs), .ow [], .no, .no] = .ok .nx [.sh (.scr ns), .sh (.lst (dlD ds)), .sh (.lst (dlD ds)), .nw (cL cs), .ow (dlD ds), flatS x5, .no] := by
    refine (ev_lendN (i := 3) (xss := cL cs) (δ1 := [.sh (.scr ns), .sh (.lst (dlD ds)), .sh (.lst (dlD ds)), .sh (.lst (cD cs)), .ow (dlD ds), x5, .no]) rfl ?_).trans ?_
    · rw [cL_lst]
      exact ev_for (ev_it (ev_var rfl) rfl gi) ej
    · rw [thaw7, hfl]; rfl
  have A7 : (fLendN 3 [0, 1, 2, 3] (fSet 6 (fCB (fCons (fVar 3) fNil) gLen))) [.sh (.scr ns), .sh (.lst (dlD ds)), .sh (.lst (dlD ds)), .nw (cL cs), .ow (dlD ds), flatS x5, .no] = .ok .nx [.sh (.scr ns), .sh (.lst (dlD ds)), .sh (.lst (dlD ds)), .nw (cL cs), .ow (dlD ds), flatS (flatS x5), .sh (.int (cs.length : Int))] := by
    refine (ev_lendN (i := 3) (xss := cL cs) (δ1 := [.sh (.scr ns), .sh (.lst (dlD ds)), .sh (.lst (dlD ds)), .sh (.lst (cD cs)), .ow (dlD ds), flatS x5, .sh (.int (cs.length : Int))]) rfl ?_).trans ?_
    · rw [cL_lst]
      exact ev_set (ev_cb (ev_cons (ev_var rfl) ev_nil) rfl n1) rfl
    · rw [thaw7, hfl]; rfl
  have A8 : (fSpoil 3 5 (.str "x")) [.sh (.scr ns), .sh (.lst (dlD ds)), .sh (.lst (dlD ds)), .nw (cL cs), .ow (dlD ds), flatS (flatS x5), .sh (.int (cs.length : Int))] = .ok .nx [.sh (.scr ns), .sh (.lst (dlD ds)), .sh (.lst (dlD ds)), .nw (spoil (.str "x") (cL cs).length (cL cs)), .ow (dlD ds), .no, .sh (.int (cs.length : Int))] :=
    ev_spoil (i := 3) (j := 5) rfl (by decide) (by show 5 < 7; decide) hsm
  have A9 : (fSpoilA 3) [.sh (.scr ns), .sh (.lst (dlD ds)), .sh (.lst (dlD ds)), .nw (spoil (.str "x") (cL cs).length (cL cs)), .ow (dlD ds), .no, .sh (.int (cs.length : Int))] = .ok .nx [.sh (.scr ns), .sh (.lst (dlD ds)), .sh (.lst (dlD ds)), .no, .ow (dlD ds), .no, .sh (.int (cs.length : Int))] :=
    ev_spoilA (i := 3) rfl (by rw [spoil_len, hcl]; unfold sizeLine; omega)
  have A10 : (fIf (fOrT (fTest (fBin (fCall 1 (fCons (fLst fNil) fNil) m_passes) (fLst fNil) gNe)) (fTest (fBin (fVar 2) (fVar 1) gNe))) (fRet (fC (.bl false))) fNext) [.sh (.scr ns), .sh (.lst (dlD ds)), .sh (.lst (dlD ds)), .no, .ow (dlD ds), .no, .sh (.int (cs.length : Int))] = .ok .nx [.sh (.scr ns), .sh (.lst (dlD ds)), .sh (.lst (dlD ds)), .no, .ow (dlD ds), .no, .sh (.int (cs.length : Int))] :=
    ev_if (ev_orTF (ev_test (ev_bin (ev_callO (ev_cons (ev_lst ev_nil rfl (Nat.le_of_ble_eq_true rfl)) ev_nil) rfl rfl g0) (ev_lst ev_nil rfl (Nat.le_of_ble_eq_true rfl)) rfl rfl g00) rfl) rfl (ev_test (ev_bin (ev_var rfl) (ev_var rfl) rfl rfl gn) rfl)) (ev_iteF rfl ev_next)
  apply ev_run
  refine ev_seqK A1 (seqK_nx ?_)
  refine ev_seqK A2 (seqK_nx ?_)
  refine ev_seqK A3 (seqK_nx ?_)
  refine ev_seqK A4 (seqK_nx ?_)
  refine ev_seqK A5 (seqK_nx ?_)
  refine ev_seqK A6 (seqK_nx ?_)
  refine ev_seqK A7 (seqK_nx ?_)
  refine ev_seqK A8 (seqK_nx ?_)
  refine ev_seqK A9 (seqK_nx ?_)
  refine ev_seqK A10 (seqK_nx ?_)
  exact ev_ret (ev_andT (ev_bin (ev_slot rfl) (ev_var rfl) rfl rfl ge) rfl rfl (ev_bin (ev_cb (ev_cons (ev_callO (ev_cons (ev_var rfl) ev_nil) rfl rfl g1) ev_nil) rfl n1) (ev_var rfl) rfl rfl ni))
theorem law_true (ns : List Int) (_ : ns.length ≤ 63) : m_law [.scr ns] = .ok (.bl true) := law18 ns
end Lw
namespace Lw
open PySem L2 DL PyProof.Rows
theorem len1 : ∀ (us : List Value), us.length = 1 → ∃ x0, us = [x0]
  | [x0], _ => ⟨x0, rfl⟩
theorem len2 : ∀ (us : List Value), us.length = 2 → ∃ x0 x1, us = [x0, x1]
  | [x0, x1], _ => ⟨x0, x1, rfl⟩
theorem all_mk {l : PySem.W.OpenLaw} {w : World} {K : PySem.W.Frag} {h : Heap} {mg : Str → Option Value} {fa : Addr} (X : K.In h) (G : h.Ns mainGlobals mg) (hfa : mg "law" = some (.ref fa))
    {f0 : Addr} {od0 an0 : Option Addr} {sl0 : Array (Option Value)} {oc0 kV0 dc0 pm0 cd0 ct0 : Value}
    {f1 : Addr} {od1 an1 : Option Addr} {sl1 : Array (Option Value)} {oc1 kV1 dc1 pm1 cd1 ct1 : Value}
    {f2 : Addr} {od2 an2 : Option Addr} {sl2 : Array (Option Value)} {oc2 kV2 dc2 pm2 cd2 ct2 : Value}
    {f3 : Addr} {od3 an3 : Option Addr} {sl3 : Array (Option Value)} {oc3 kV3 dc3 pm3 cd3 ct3 : Value}
    {f4 : Addr} {od4 an4 : Option Addr} {sl4 : Array (Option Value)} {oc4 kV4 dc4 pm4 cd4 ct4 : Value}
    {f5 : Addr} {od5 an5 : Option Addr} {sl5 : Array (Option Value)} {oc5 kV5 dc5 pm5 cd5 ct5 : Value}
    {f6 : Addr} {od6 an6 : Option Addr} {sl6 : Array (Option Value)} {oc6 kV6 dc6 pm6 cd6 ct6 : Value}
    {f7 : Addr} {od7 an7 : Option Addr} {sl7 : Array (Option Value)} {oc7 kV7 dc7 pm7 cd7 ct7 : Value}
    {f8 : Addr} {od8 an8 : Option Addr} {sl8 : Array (Option Value)} {oc8 kV8 dc8 pm8 cd8 ct8 : Value}
    {f9 : Addr} {od9 an9 : Option Addr} {sl9 : Array (Option Value)} {oc9 kV9 dc9 pm9 cd9 ct9 : Value}
    {f10 : Addr} {od10 an10 : Option Addr} {sl10 : Array (Option Value)} {oc10 kV10 dc10 pm10 cd10 ct10 : Value}
    {f11 : Addr} {od11 an11 : Option Addr} {sl11 : Array (Option Value)} {oc11 kV11 dc11 pm11 cd11 ct11 : Value}
    (a0 : PySem.W.nsIn K mainGlobals "_law_cell_at" = some (some (.ref f0))) (l0 : K.lookup f0 = some ⟨oc0, od0, .func (PySem.W.fnOf "_law_cell_at" "_law_cell_at" (defArgs s_cell_at) (defBody s_cell_at) (defScope s_cell_at) .none kV0 dc0 pm0 an0 cd0 ct0), sl0⟩) (c0 : PySem.W.codeIn K cd0 "_law_cell_at" = true) (k0 : PySem.W.keepIn K (.ref f0) = true)
    (a1 : PySem.W.nsIn K mainGlobals "_law_mix" = some (some (.ref f1))) (l1 : K.lookup f1 = some ⟨oc1, od1, .func (PySem.W.fnOf "_law_mix" "_law_mix" (defArgs s_mix) (defBody s_mix) (defScope s_mix) .none kV1 dc1 pm1 an1 cd1 ct1), sl1⟩) (c1 : PySem.W.codeIn K cd1 "_law_mix" = true) (k1 : PySem.W.keepIn K (.ref f1) = true)
    (a2 : PySem.W.nsIn K mainGlobals "_law_any_deed" = some (some (.ref f2))) (l2 : K.lookup f2 = some ⟨oc2, od2, .func (PySem.W.fnOf "_law_any_deed" "_law_any_deed" (defArgs s_any_deed) (defBody s_any_deed) (defScope s_any_deed) .none kV2 dc2 pm2 an2 cd2 ct2), sl2⟩) (c2 : PySem.W.codeIn K cd2 "_law_any_deed" = true) (k2 : PySem.W.keepIn K (.ref f2) = true)
    (a3 : PySem.W.nsIn K mainGlobals "_law_next_deed" = some (some (.ref f3))) (l3 : K.lookup f3 = some ⟨oc3, od3, .func (PySem.W.fnOf "_law_next_deed" "_law_next_deed" (defArgs s_next_deed) (defBody s_next_deed) (defScope s_next_deed) .none kV3 dc3 pm3 an3 cd3 ct3), sl3⟩) (c3 : PySem.W.codeIn K cd3 "_law_next_deed" = true) (k3 : PySem.W.keepIn K (.ref f3) = true)
    (a4 : PySem.W.nsIn K mainGlobals "_law_some_deeds" = some (some (.ref f4))) (l4 : K.lookup f4 = some ⟨oc4, od4, .func (PySem.W.fnOf "_law_some_deeds" "_law_some_deeds" (defArgs s_some_deeds) (defBody s_some_deeds) (defScope s_some_deeds) .none kV4 dc4 pm4 an4 cd4 ct4), sl4⟩) (c4 : PySem.W.codeIn K cd4 "_law_some_deeds" = true) (k4 : PySem.W.keepIn K (.ref f4) = true)
    (a5 : PySem.W.nsIn K mainGlobals "loops_end" = some (some (.ref f5))) (l5 : K.lookup f5 = some ⟨oc5, od5, .func (PySem.W.fnOf "loops_end" "loops_end" (defArgs s_loops_end) (defBody s_loops_end) (defScope s_loops_end) .none kV5 dc5 pm5 an5 cd5 ct5), sl5⟩) (c5 : PySem.W.codeIn K cd5 "loops_end" = true) (k5 : PySem.W.keepIn K (.ref f5) = true)
    (a6 : PySem.W.nsIn K mainGlobals "is_move_beside" = some (some (.ref f6))) (l6 : K.lookup f6 = some ⟨oc6, od6, .func (PySem.W.fnOf "is_move_beside" "is_move_beside" (defArgs s_is_move_beside) (defBody s_is_move_beside) (defScope s_is_move_beside) .none kV6 dc6 pm6 an6 cd6 ct6), sl6⟩) (c6 : PySem.W.codeIn K cd6 "is_move_beside" = true) (k6 : PySem.W.keepIn K (.ref f6) = true)
    (a7 : PySem.W.nsIn K mainGlobals "moves_end" = some (some (.ref f7))) (l7 : K.lookup f7 = some ⟨oc7, od7, .func (PySem.W.fnOf "moves_end" "moves_end" (defArgs s_moves_end) (defBody s_moves_end) (defScope s_moves_end) .none kV7 dc7 pm7 an7 cd7 ct7), sl7⟩) (c7 : PySem.W.codeIn K cd7 "moves_end" = true) (k7 : PySem.W.keepIn K (.ref f7) = true)
    (a8 : PySem.W.nsIn K mainGlobals "pass_end" = some (some (.ref f8))) (l8 : K.lookup f8 = some ⟨oc8, od8, .func (PySem.W.fnOf "pass_end" "pass_end" (defArgs s_pass_end) (defBody s_pass_end) (defScope s_pass_end) .none kV8 dc8 pm8 an8 cd8 ct8), sl8⟩) (c8 : PySem.W.codeIn K cd8 "pass_end" = true) (k8 : PySem.W.keepIn K (.ref f8) = true)
    (a9 : PySem.W.nsIn K mainGlobals "passes" = some (some (.ref f9))) (l9 : K.lookup f9 = some ⟨oc9, od9, .func (PySem.W.fnOf "passes" "passes" (defArgs s_passes) (defBody s_passes) (defScope s_passes) .none kV9 dc9 pm9 an9 cd9 ct9), sl9⟩) (c9 : PySem.W.codeIn K cd9 "passes" = true) (k9 : PySem.W.keepIn K (.ref f9) = true)
    (a10 : PySem.W.nsIn K mainGlobals "_law_makes_pass" = some (some (.ref f10))) (l10 : K.lookup f10 = some ⟨oc10, od10, .func (PySem.W.fnOf "_law_makes_pass" "_law_makes_pass" (defArgs s_makes_pass) (defBody s_makes_pass) (defScope s_makes_pass) .none kV10 dc10 pm10 an10 cd10 ct10), sl10⟩) (c10 : PySem.W.codeIn K cd10 "_law_makes_pass" = true) (k10 : PySem.W.keepIn K (.ref f10) = true)
    (a11 : PySem.W.nsIn K mainGlobals "law" = some (some (.ref f11))) (l11 : K.lookup f11 = some ⟨oc11, od11, .func (PySem.W.fnOf "law" "law" (defArgs s_law) (defBody s_law) (defScope s_law) .none kV11 dc11 pm11 an11 cd11 ct11), sl11⟩) (c11 : PySem.W.codeIn K cd11 "law" = true) (k11 : PySem.W.keepIn K (.ref f11) = true)
    (z_all : PySem.W.nsIn K mainGlobals "all" = some none)
    (z_isinstance : PySem.W.nsIn K mainGlobals "isinstance" = some none)
    (z_len : PySem.W.nsIn K mainGlobals "len" = some none)
    (z_list : PySem.W.nsIn K mainGlobals "list" = some none)
    (z_max : PySem.W.nsIn K mainGlobals "max" = some none)
    (z_min : PySem.W.nsIn K mainGlobals "min" = some none)
    (z_range : PySem.W.nsIn K mainGlobals "range" = some none)
    (z_set : PySem.W.nsIn K mainGlobals "set" = some none)
    (z_tuple : PySem.W.nsIn K mainGlobals "tuple" = some none) :
    ∃ fd : FuncData, (∀ (s : Shared) (v : Value), BindsTo s fd ⟨[v], []⟩ [("script", v)]) ∧ ∀ base : Heap, K.In base → base.Ns mainGlobals mg → FnOk l.prog w K mg base CX0 5 fa fd ["script"] (spP K (fun _ => .none) 1 m_law) := by
  have e := hfa.symm.trans (PySem.W.mg_of X G a11)
  cases e
  have T : Txt K mg := ⟨PySem.W.mg_none_of X G z_all, PySem.W.mg_none_of X G z_isinstance, PySem.W.mg_none_of X G z_len, PySem.W.mg_none_of X G z_list, PySem.W.mg_none_of X G z_max, PySem.W.mg_none_of X G z_min, PySem.W.mg_none_of X G z_range, PySem.W.mg_none_of X G z_set, PySem.W.mg_none_of X G z_tuple⟩
  have F0 := fun_mk (st := s_cell_at) l0 c0 k0
  have F1 := fun_mk (st := s_mix) l1 c1 k1
  have F2 := fun_mk (st := s_any_deed) l2 c2 k2
  have F3 := fun_mk (st := s_next_deed) l3 c3 k3
  have F4 := fun_mk (st := s_some_deeds) l4 c4 k4
  have F5 := fun_mk (st := s_loops_end) l5 c5 k5
  have F6 := fun_mk (st := s_is_move_beside) l6 c6 k6
  have F7 := fun_mk (st := s_moves_end) l7 c7 k7
  have F8 := fun_mk (st := s_pass_end) l8 c8 k8
  have F9 := fun_mk (st := s_passes) l9 c9 k9
  have F10 := fun_mk (st := s_makes_pass) l10 c10 k10
  have F11 := fun_mk (st := s_law) l11 c11 k11
  refine ⟨PySem.W.fnOf "law" "law" (defArgs s_law) (defBody s_law) (defScope s_law) .none kV11 dc11 pm11 an11 cd11 ct11, fun s v => .of_eq rfl, fun base _ _ => ?_⟩
  have D_cell_at : DefP l.prog w K mg base 1 "_law_cell_at" 2 m_cell_at := ⟨_, _, _, ok_cell_at F0 T , PySem.W.mg_of X G a0, k0, F0.binds (ps := ["script", "k"]) fun _ _ _ _ _ _ us hl => by obtain ⟨_, _, rfl⟩ := len2 us hl; rfl⟩
  have D_mix : DefP l.prog w K mg base 1 "_law_mix" 2 m_mix := ⟨_, _, _, ok_mix F1 T , PySem.W.mg_of X G a1, k1, F1.binds (ps := ["cell", "k"]) fun _ _ _ _ _ _ us hl => by obtain ⟨_, _, rfl⟩ := len2 us hl; rfl⟩
  have D_any_deed : DefP l.prog w K mg base 2 "_law_any_deed" 1 m_any_deed := ⟨_, _, _, ok_any_deed F2 T D_mix, PySem.W.mg_of X G a2, k2, F2.binds (ps := ["cell"]) fun _ _ _ _ _ _ us hl => by obtain ⟨_, rfl⟩ := len1 us hl; rfl⟩
  have D_next_deed : DefP l.prog w K mg base 3 "_law_next_deed" 2 m_next_deed := ⟨_, _, _, ok_next_deed F3 T D_any_deed D_mix, PySem.W.mg_of X G a3, k3, F3.binds (ps := ["deed", "cell"]) fun _ _ _ _ _ _ us hl => by obtain ⟨_, _, rfl⟩ := len2 us hl; rfl⟩
  have D_some_deeds : DefP l.prog w K mg base 4 "_law_some_deeds" 2 m_some_deeds := ⟨_, _, _, ok_some_deeds F4 T D_cell_at D_mix D_any_deed D_next_deed, PySem.W.mg_of X G a4, k4, F4.binds (ps := ["script", "many"]) fun _ _ _ _ _ _ us hl => by obtain ⟨_, _, rfl⟩ := len2 us hl; rfl⟩
  have D_loops_end : DefP l.prog w K mg base 1 "loops_end" 2 m_loops_end := ⟨_, _, _, ok_loops_end F5 T , PySem.W.mg_of X G a5, k5, F5.binds (ps := ["deeds", "start"]) fun _ _ _ _ _ _ us hl => by obtain ⟨_, _, rfl⟩ := len2 us hl; rfl⟩
  have D_is_move_beside : DefP l.prog w K mg base 1 "is_move_beside" 2 m_is_move_beside := ⟨_, _, _, ok_is_move_beside F6 T , PySem.W.mg_of X G a6, k6, F6.binds (ps := ["first", "deed"]) fun _ _ _ _ _ _ us hl => by obtain ⟨_, _, rfl⟩ := len2 us hl; rfl⟩
  have D_moves_end : DefP l.prog w K mg base 2 "moves_end" 2 m_moves_end := ⟨_, _, _, ok_moves_end F7 T D_is_move_beside, PySem.W.mg_of X G a7, k7, F7.binds (ps := ["deeds", "start"]) fun _ _ _ _ _ _ us hl => by obtain ⟨_, _, rfl⟩ := len2 us hl; rfl⟩
  have D_pass_end : DefP l.prog w K mg base 3 "pass_end" 2 m_pass_end := ⟨_, _, _, ok_pass_end F8 T D_loops_end D_moves_end, PySem.W.mg_of X G a8, k8, F8.binds (ps := ["deeds", "start"]) fun _ _ _ _ _ _ us hl => by obtain ⟨_, _, rfl⟩ := len2 us hl; rfl⟩
  have D_passes : DefP l.prog w K mg base 4 "passes" 1 m_passes := ⟨_, _, _, ok_passes F9 T D_pass_end, PySem.W.mg_of X G a9, k9, F9.binds (ps := ["deeds"]) fun _ _ _ _ _ _ us hl => by obtain ⟨_, rfl⟩ := len1 us hl; rfl⟩
  have D_passesL : DefL l.prog w K mg base 4 "passes" 1 m_passesL := ⟨_, _, _, ok_passesL F9 T D_pass_end, PySem.W.mg_of X G a9, k9, F9.binds (ps := ["deeds"]) fun _ _ _ _ _ _ us hl => by obtain ⟨_, rfl⟩ := len1 us hl; rfl⟩
  have D_makes_pass : DefP l.prog w K mg base 1 "_law_makes_pass" 1 m_makes_pass := ⟨_, _, _, ok_makes_pass F10 T , PySem.W.mg_of X G a10, k10, F10.binds (ps := ["deeds"]) fun _ _ _ _ _ _ us hl => by obtain ⟨_, rfl⟩ := len1 us hl; rfl⟩
  exact ok_law F11 T D_some_deeds D_passes D_passesL D_cell_at D_makes_pass
theorem walk {l : PySem.W.OpenLaw} {q : Program} {loose : List Str} {XP : (Str → Option Value) → Heap → Prop} {YP : World → Heap → Prop} {d : DefRec} {K : Params → PySem.W.Frag} (hn : l.most = some 63) (hdf : d.params.defaults = [])
    (hY : ∀ (w : World) (h : Heap), YP w h → (K w.params).In h)
    (F : ∀ (w : World) (mg : Str → Option Value) (fa : Addr) (h : Heap), (K w.params).In h → h.Ns mainGlobals mg → mg d.name = some (.ref fa) →
      ∃ fd : FuncData, (∀ (s : Shared) (u : Value), BindsTo s fd ⟨[u], []⟩ [("script", u)]) ∧ ∀ base : Heap, (K w.params).In base → base.Ns mainGlobals mg → FnOk l.prog w (K w.params) mg base CX0 5 fa fd ["script"] (spP (K w.params) (fun _ => .none) 1 m_law)) :
    PySem.W.WalkO q loose XP YP l.row.toRowW d [] (fun f vs => PySem.call f vs) :=
  L2.walk_of (n := 63) (k := 5) (x := "script") (CX := fun _ => CX0) (sp := fun w => spP (K w.params) (fun _ => .none) 1 m_law) hn (by decide) hdf ⟨rfl, by decide, by decide, rfl⟩ hY F (fun w H a ns hl hO hS => script_sp (law_true ns hl) hO hS) fun _ _ _ _ _ z => z
end Lw
open PySem PySem.W PyProof.Rows
set_option maxRecDepth 100000 in
set_option maxHeartbeats 0 in
theorem PySem.Challenge.cw_loopbed_k18_passes_holds : PySem.Challenge.rw_loopbed_k18_passes.Holds := by
  w_on; o_law; k_head; (case hw => w_witness2)
  k_fill
  refine Lw.walk (l := PySem.Challenge.rw_loopbed_k18_passes) rfl rfl (fun w h Y => PySem.W.kIn_of Y) ?F
  case F =>
    intro w mg fa h KX G hmg
    refine' Lw.all_mk KX G hmg ?a0 ?l0 ?c0 ?k0 ?a1 ?l1 ?c1 ?k1 ?a2 ?l2 ?c2 ?k2 ?a3 ?l3 ?c3 ?k3 ?a4 ?l4 ?c4 ?k4 ?a5 ?l5 ?c5 ?k5 ?a6 ?l6 ?c6 ?k6 ?a7 ?l7 ?c7 ?k7 ?a8 ?l8 ?c8 ?k8 ?a9 ?l9 ?c9 ?k9 ?a10 ?l10 ?c10 ?k10 ?a11 ?l11 ?c11 ?k11 ?z_all ?z_isinstance ?z_len ?z_list ?z_max ?z_min ?z_range ?z_set ?z_tuple
    (case a0 => k_is)
    (case l0 => k_is)
    (case c0 => k_is)
    (case k0 => k_is)
    (case a1 => k_is)
    (case l1 => k_is)
    (case c1 => k_is)
    (case k1 => k_is)
    (case a2 => k_is)
    (case l2 => k_is)
    (case c2 => k_is)
    (case k2 => k_is)
    (case a3 => k_is)
    (case l3 => k_is)
    (case c3 => k_is)
    (case k3 => k_is)
    (case a4 => k_is)
    (case l4 => k_is)
    (case c4 => k_is)
    (case k4 => k_is)
    (case a5 => k_is)
    (case l5 => k_is)
    (case c5 => k_is)
    (case k5 => k_is)
    (case a6 => k_is)
    (case l6 => k_is)
    (case c6 => k_is)
    (case k6 => k_is)
    (case a7 => k_is)
    (case l7 => k_is)
    (case c7 => k_is)
    (case k7 => k_is)
    (case a8 => k_is)
    (case l8 => k_is)
    (case c8 => k_is)
    (case k8 => k_is)
    (case a9 => k_is)
    (case l9 => k_is)
    (case c9 => k_is)
    (case k9 => k_is)
    (case a10 => k_is)
    (case l10 => k_is)
    (case c10 => k_is)
    (case k10 => k_is)
    (case a11 => k_is)
    (case l11 => k_is)
    (case c11 => k_is)
    (case k11 => k_is)
    (case z_all => k_is)
    (case z_isinstance => k_is)
    (case z_len => k_is)
    (case z_list => k_is)
    (case z_max => k_is)
    (case z_min => k_is)
    (case z_range => k_is)
    (case z_set => k_is)
    (case z_tuple => k_is)
