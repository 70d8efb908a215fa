import PyProof.Rows.All
import Wide.All
import OpenK.AllK
import Wide.FinOn
import Lean
import PyProof.EqAt
import PyProof.EqKinds
import PyProof.TupleCall
import KE.KTryMore
import PySem.Challenge.RW_loopbed_k11_refused_deeds
set_option Elab.async false
set_option linter.all false
set_option maxRecDepth 100000
namespace L2
open PySem PySem.Spec PyProof.Rows
noncomputable abbrev Key := Sum Int Str
noncomputable def keyIs : Key → Value → Bool
  | .inl k, v => Value.isInt k v
  | .inr x, v => Value.isStrOf x v
noncomputable def keyH (w : World) : Key → Int
  | .inl k => hashInt k
  | .inr x => hashStr w x
theorem keyIs_shape : ∀ {k : Key} {v : Value}, keyIs k v = true → (∃ i t, k = Sum.inl i ∧ v = Value.int i t) ∨ (∃ x t, k = Sum.inr x ∧ v = Value.str x t)
  | .inl i, v, h => by
    obtain ⟨t, e⟩ := Value.isInt_shape (k := i) (v := v) h
    exact .inl ⟨i, t, rfl, e⟩
  | .inr x, v, h => by
    obtain ⟨t, e⟩ := Value.isStrOf_shape (x := x) (v := v) h
    exact .inr ⟨x, t, rfl, e⟩
theorem keyIs_int (i : Int) (t : Tok) : keyIs (.inl i) (.int i t) = true := by simp [keyIs, Value.isInt]
theorem keyIs_str (x : Str) (t : Tok) : keyIs (.inr x) (.str x t) = true := by simp [keyIs, Value.isStrOf]
theorem key_ll (a b : Int) : decide ((Sum.inl a : Key) = Sum.inl b) = (a == b) := by
  by_cases e : a = b
  · subst e; simp
  · have h : ¬ (Sum.inl a : Key) = Sum.inl b := fun q => e (Sum.inl.inj q)
    rw [decide_eq_false h]
    exact (beq_eq_false_iff_ne.mpr e).symm
theorem key_rr (a b : Str) : decide ((Sum.inr a : Key) = Sum.inr b) = decide (a = b) := by
  by_cases e : a = b
  · subst e; simp
  · have h : ¬ (Sum.inr a : Key) = Sum.inr b := fun q => e (Sum.inr.inj q)
    rw [decide_eq_false h, decide_eq_false e]
theorem key_lr (a : Int) (b : Str) : decide ((Sum.inl a : Key) = Sum.inr b) = false := decide_eq_false (fun q => nomatch q)
theorem key_rl (a : Str) (b : Int) : decide ((Sum.inr a : Key) = Sum.inl b) = false := decide_eq_false (fun q => nomatch q)
noncomputable def mixKind (prog : Program) (w : World) : PySem.KeyKind prog w Key where
  is := keyIs
  hash := keyH w
  inj := fun v a b ha hb => by
    rcases keyIs_shape ha with ⟨i, t, rfl, rfl⟩ | ⟨x, t, rfl, rfl⟩
    · rcases keyIs_shape hb with ⟨j, u, rfl, e⟩ | ⟨y, u, rfl, e⟩
      · injection e with e1 _; rw [e1]
      · exact nomatch e
    · rcases keyIs_shape hb with ⟨j, u, rfl, e⟩ | ⟨y, u, rfl, e⟩
      · exact nomatch e
      · injection e with e1 _; rw [e1]
  byValue := fun k v h => by
    rcases keyIs_shape h with ⟨i, t, rfl, rfl⟩ | ⟨x, t, rfl, rfl⟩ <;> rfl
  pyHash := fun hv h => by
    rcases keyIs_shape hv with ⟨i, t, rfl, rfl⟩ | ⟨x, t, rfl, rfl⟩
    · exact wpAny_pyHash_int h
    · exact wpAny_pyHash_str h
  eqBool := fun hu hv h => by
    rcases keyIs_shape hu with ⟨i, t, rfl, rfl⟩ | ⟨x, t, rfl, rfl⟩
    · rcases keyIs_shape hv with ⟨j, u, rfl, rfl⟩ | ⟨y, u, rfl, rfl⟩
      · rw [key_ll] at h; exact wpAny_eqBool_int h
      · rw [key_lr] at h; exact SeqAt.EqAt.int_str i t y u _ _ _ _ h
    · rcases keyIs_shape hv with ⟨j, u, rfl, rfl⟩ | ⟨y, u, rfl, rfl⟩
      · rw [key_rl] at h; exact SeqAt.EqAt.str_int x t j u _ _ _ _ h
      · rw [key_rr] at h; exact wpAny_eqBool_str h
  «strs» := fun k x t v h => by
    rcases keyIs_shape h with ⟨i, u, rfl, e⟩ | ⟨y, u, rfl, e⟩
    · exact nomatch e
    · injection e with e1 _
      subst e1
      cases v <;> rfl
theorem mixKind_int (prog : Program) (w : World) (i : Int) (t : Tok) : (mixKind prog w).is (.inl i) (.int i t) = true := keyIs_int i t
theorem mixKind_str (prog : Program) (w : World) (x : Str) (t : Tok) : (mixKind prog w).is (.inr x) (.str x t) = true := keyIs_str x t
end L2
namespace L2
open PySem PySem.Spec PyProof.Rows
inductive V where
  | non | bl (b : Bool) | int (i : Int) | str (x : Str) | byt (b : Array UInt8) | flt (b : UInt64) | ref (a : Addr) | ty (n : String)
  deriving DecidableEq
noncomputable def RelV : V → Value → Prop
  | .non, u => u = Value.none
  | .bl b, u => u = Value.bool b
  | .int i, u => ∃ t, u = Value.int i t
  | .str x, u => ∃ t, u = Value.str x t
  | .byt b, u => ∃ t, u = Value.bytes b t
  | .flt b, u => ∃ t, u = Value.float b t
  | .ref a, u => u = Value.ref a
  | .ty n, u => u = Value.type n
noncomputable abbrev Vals : List V → List Value → Prop := Paired RelV
theorem Vals.length {xs : List V} {us : List Value} (r : Vals xs us) : xs.length = us.length := Paired.length r
theorem Vals.get : ∀ {xs : List V} {us : List Value} {i : Nat} {x : V}, Vals xs us → xs[i]? = some x → ∃ u, us[i]? = some u ∧ RelV x u
  | _, _, _, _, .nil, e => by simp at e
  | _, _, 0, _, .cons r _, e => by simp at e; subst e; exact ⟨_, rfl, r⟩
  | _, _, i + 1, x, .cons _ t, e => by
    obtain ⟨u, h1, h2⟩ := Vals.get (i := i) (x := x) t (by simpa using e)
    exact ⟨u, by simpa using h1, h2⟩
theorem Vals.set {x : V} {u : Value} (r : RelV x u) : ∀ {xs : List V} {us : List Value} (i : Nat), Vals xs us → Vals (xs.set i x) (us.set i u)
  | _, _, _, .nil => .nil
  | _, _, 0, .cons _ t => .cons r t
  | _, _, i + 1, .cons q t => .cons q (Vals.set r i t)
theorem Vals.append : ∀ {xs ys : List V} {us ws : List Value}, Vals xs us → Vals ys ws → Vals (xs ++ ys) (us ++ ws)
  | _, _, _, _, .nil, s => s
  | _, _, _, _, .cons r t, s => .cons r (Vals.append t s)
theorem Vals.take : ∀ {xs : List V} {us : List Value} (n : Nat), Vals xs us → Vals (xs.take n) (us.take n)
  | _, _, 0, _ => .nil
  | _, _, _ + 1, .nil => .nil
  | _, _, n + 1, .cons r t => .cons r (Vals.take n t)
theorem Vals.drop : ∀ {xs : List V} {us : List Value} (n : Nat), Vals xs us → Vals (xs.drop n) (us.drop n)
  | _, _, 0, r => r
  | _, _, _ + 1, .nil => .nil
  | _, _, n + 1, .cons _ t => Vals.drop n t
theorem Vals.none_of : ∀ {xs : List V} {us : List Value} {i : Nat}, Vals xs us → xs[i]? = none → us[i]? = none := fun {xs us i} r e => by
  have h1 := r.length
  have h2 : xs.length ≤ i := List.getElem?_eq_none_iff.mp e
  exact List.getElem?_eq_none_iff.mpr (by omega)
noncomputable def RelO : Option V → Option Value → Prop
  | some v, some u => RelV v u
  | none, none => True
  | _, _ => False
noncomputable def KV {κ : Type} : List (κ × V) → List (κ × Value) → Prop := Paired fun (p : κ × V) (q : κ × Value) => p.1 = q.1 ∧ RelV p.2 q.2
noncomputable def kV : Key → V
  | .inl i => .int i
  | .inr x => .str x
inductive HO where
  | lst (xs : List V)
  | tup (xs : List V)
  | dK (kvs : List (Key × V)) | dT (kvs : List (List Key × V))
  | set (S : Int → Bool) (n : Nat)
  | ins (C dx : Addr) (fs : List (Str × V))
  | own (x : Addr)
  | xd (fs : List (Str × V))
  | met (f x : Addr)
  | rng (lo hi : Int)
  | frz (o : Obj) (u : HO)
  | tbl (ps : Array Value)
  | ext (φ : Heap → Prop)
noncomputable abbrev Hp := Addr → Option HO
noncomputable def upd (H : Hp) (a : Addr) (o : HO) : Hp := fun b => if b = a then some o else H b
theorem upd_same {H : Hp} {a : Addr} {o : HO} : upd H a o a = some o := by unfold upd; rw [if_pos rfl]
theorem upd_ne {H : Hp} {a b : Addr} {o : HO} (h : b ≠ a) : upd H a o b = H b := by unfold upd; rw [if_neg h]
theorem ne_of {H : Hp} {a b : Addr} {o u : HO} (h : H a = some o) (h' : H b = some u) (d : o ≠ u) : a ≠ b := by
  intro e; subst e; rw [h] at h'; exact d (Option.some.inj h')
theorem ne_of_none {H : Hp} {a b : Addr} {o : HO} (h : H a = some o) (h' : H b = none) : a ≠ b := by
  intro e; subst e; rw [h] at h'; cases h'
section
variable (P : Program) (w : World)
noncomputable def ObjOk (H : Hp) (h : Heap) (a : Addr) : HO → Prop
  | .lst xs => xs.length ≤ sizeLine ∧ ∃ (its : List Value) (n : Nat), Vals xs its ∧ h.get? a = some { cls := .type "list", data := .seq its.toArray n }
  | .tup xs => xs.length ≤ sizeLine ∧ ∃ its : List Value, Vals xs its ∧ IsTup h a its.toArray
  | .dK kvs => kvs.length ≤ sizeLine ∧ (a == sysModules) = false ∧ ∃ vs, KV kvs vs ∧ h.DictOf (mixKind P w) a vs
  | .dT kvs => kvs.length ≤ sizeLine ∧ (a == sysModules) = false ∧ ∃ xs : List (List Key × Addr × Value),
      Paired (fun (p : List Key × V) (q : List Key × Addr × Value) => p.1 = q.1 ∧ H q.2.1 = some (.tup (p.1.map kV)) ∧ RelV p.2 q.2.2) kvs xs ∧
      ∃ o es ep, h.get? a = some o ∧ o.ExactDict ∧ o.data = .dict es ep ∧ es.toList = xs.map (entryOfKey (tupleKind (mixKind P w))) ∧ (xs.map (·.1)).Nodup
  | .set S n => h.SetOf (intKind P w) a S n
  | .ins C dx fs => H dx = some (.own a) ∧ fs.length ≤ 1000 ∧ dx ≠ a ∧ h.get? a = some (PySem.W.instObj C dx) ∧
      ∃ mA, h.Ns1 dx mA ∧ (∀ f, RelO (fs.lookup f) (mA f)) ∧ PySem.Within mA (fs.map (·.1))
  | .own _ => ∃ o, h.get? a = some o
  | .xd fs => ∃ mA, h.Ns1 a mA ∧ ∀ f, RelO (fs.lookup f) (mA f)
  | .rng lo hi => ∃ t u v, h.get? a = some { cls := .type "range", data := .fields #[.int lo t, .int hi u, .int 1 v] }
  | .frz o u => h.get? a = some o ∧ ObjOk H h a u
  | .tbl ps => h.get? a = some { cls := .none, data := .fields ps }
  | .met f x => h.get? a = some (PySem.W.methodObj (.ref f) (.ref x))
  | .ext φ => φ h ∧ (∃ o, h.get? a = some o) ∧ ∀ h1 h2 : Heap, φ h1 → (∀ o, h1.get? a = some o → h2.get? a = some o) → φ h2
noncomputable def HOk (H : Hp) (h : Heap) : Prop := ∀ a o, H a = some o → ObjOk P w H h a o
end
section
variable {P : Program} {w : World} {H H' : Hp} {h h' : Heap} {a : Addr} {o : HO}
theorem ObjOk.lt (x : ObjOk P w H h a o) : a < h.objs.size := by
  cases o with
  | lst xs => obtain ⟨_, _, _, _, e⟩ := x; exact Heap.lt_size e
  | tup xs => obtain ⟨_, _, _, p⟩ := x; exact p.lt
  | dK kvs => obtain ⟨_, _, _, _, o, _, _, e, _⟩ := x; exact Heap.lt_size e
  | dT kvs => obtain ⟨_, _, _, _, o, _, _, e, _⟩ := x; exact Heap.lt_size e
  | set S n => obtain ⟨o, _, _, _, e, _⟩ := x; exact Heap.lt_size e
  | ins C dx fs => obtain ⟨_, _, _, e, _⟩ := x; exact Heap.lt_size e
  | own y => obtain ⟨_, e⟩ := x; exact Heap.lt_size e
  | xd fs => obtain ⟨_, ⟨_, _, _, e, _⟩, _⟩ := x; exact Heap.lt_size e
  | rng lo hi => obtain ⟨_, _, _, e⟩ := x; exact Heap.lt_size e
  | frz ob u => obtain ⟨e, _⟩ := x; exact Heap.lt_size e
  | tbl ps => exact Heap.lt_size (show h.get? a = some _ from x)
  | met f y => exact Heap.lt_size (show h.get? a = some _ from x)
  | ext φ => obtain ⟨_, ⟨_, e⟩, _⟩ := x; exact Heap.lt_size e
theorem Paired.mapP {α β : Type} {F G : α → β → Prop} : ∀ {l₁ : List α} {l₂ : List β}, Paired F l₁ l₂ → (∀ a b, F a b → G a b) → Paired G l₁ l₂
  | _, _, .nil, _ => .nil
  | _, _, .cons r t, f => .cons (f _ _ r) (Paired.mapP t f)
theorem ObjOk.stay (x : ObjOk P w H h a o) (k : ∀ b u, (b = a ∨ H b = some (.own a)) → h.get? b = some u → h'.get? b = some u)
    (ho : ∀ b, H b = some (.own a) → H' b = some (.own a)) (ht : ∀ b xs, H b = some (.tup xs) → H' b = some (.tup xs)) : ObjOk P w H' h' a o := by
  induction o with
  | lst xs => obtain ⟨z, its, n, r, e⟩ := x; exact ⟨z, its, n, r, k _ _ (.inl rfl) e⟩
  | tup xs => obtain ⟨z, its, r, ob, e, c⟩ := x; exact ⟨z, its, r, ob, k _ _ (.inl rfl) e, c⟩
  | dK kvs => obtain ⟨z, y, vs, r, ob, es, ep, e, c⟩ := x; exact ⟨z, y, vs, r, ob, es, ep, k _ _ (.inl rfl) e, c⟩
  | dT kvs =>
    obtain ⟨z, y, xs, r, ob, es, ep, e, c⟩ := x
    exact ⟨z, y, xs, Paired.mapP r fun p q z => ⟨z.1, ht _ _ z.2.1, z.2.2⟩, ob, es, ep, k _ _ (.inl rfl) e, c⟩
  | set S n => obtain ⟨ob, es, ep, t, e, c⟩ := x; exact ⟨ob, es, ep, t, k _ _ (.inl rfl) e, c⟩
  | ins C dx fs =>
    obtain ⟨d, z, ne, e, mA, ⟨od, es, ep, e2, c⟩, r⟩ := x
    exact ⟨ho _ d, z, ne, k _ _ (.inl rfl) e, mA, ⟨od, es, ep, k _ _ (.inr d) e2, c⟩, r⟩
  | own y => obtain ⟨ob, e⟩ := x; exact ⟨ob, k _ _ (.inl rfl) e⟩
  | xd fs => obtain ⟨mA, ⟨od, es, ep, e, c⟩, r⟩ := x; exact ⟨mA, ⟨od, es, ep, k _ _ (.inl rfl) e, c⟩, r⟩
  | rng lo hi => obtain ⟨t, u, v, e⟩ := x; exact ⟨t, u, v, k _ _ (.inl rfl) e⟩
  | frz ob u ih => obtain ⟨e, q⟩ := x; exact ⟨k _ _ (.inl rfl) e, ih q⟩
  | tbl ps =>
    have e : h.get? a = some { cls := .none, data := .fields ps } := x
    show h'.get? a = some { cls := .none, data := .fields ps }
    exact k a _ (.inl rfl) e
  | met f y =>
    have e : h.get? a = some (PySem.W.methodObj (.ref f) (.ref y)) := x
    show h'.get? a = some (PySem.W.methodObj (.ref f) (.ref y))
    exact k a _ (.inl rfl) e
  | ext φ => obtain ⟨p, ⟨o, e⟩, st⟩ := x; exact ⟨st _ _ p fun o q => k _ _ (.inl rfl) q, ⟨o, k _ _ (.inl rfl) e⟩, st⟩
theorem HOk.lt (x : HOk P w H h) (e : H a = some o) : a < h.objs.size := (x a o e).lt
theorem HOk.fresh (x : HOk P w H h) (e : h.objs.size ≤ a) : H a = none := by
  cases q : H a with
  | none => rfl
  | some u => exact absurd (Nat.lt_of_lt_of_le (x.lt q) e) (Nat.lt_irrefl _)
theorem HOk.kept (x : HOk P w H h) (k : ∀ b u, h.get? b = some u → h'.get? b = some u) : HOk P w H h' := fun a o e =>
  (x a o e).stay (fun b u _ q => k b u q) (fun _ q => q) fun _ _ q => q
theorem HOk.laid (x : HOk P w H h) (k : ∀ b u, h.get? b = some u → h'.get? b = some u) (hp : h.objs.size ≤ a) (new : ObjOk P w (upd H a o) h' a o) : HOk P w (upd H a o) h' := fun b u e => by
  have hn := x.fresh hp
  by_cases hb : b = a
  · subst hb; rw [upd_same] at e; cases e; exact new
  · rw [upd_ne hb] at e
    exact (x b u e).stay (fun c v _ q => k c v q) (fun c q => by rw [upd_ne (ne_of_none q hn)]; exact q) fun c xs q => by rw [upd_ne (ne_of_none q hn)]; exact q
end
noncomputable def Rd (H : Hp) (a : Addr) (u : HO) : Prop := H a = some u ∨ ∃ o, H a = some (.frz o u)
theorem Rd.of {H : Hp} {a : Addr} {u : HO} (h : H a = some u) : Rd H a u := .inl h
theorem Rd.ok {P : Program} {w : World} {H : Hp} {h : Heap} {a : Addr} {u : HO} (r : Rd H a u) (x : HOk P w H h) : ObjOk P w H h a u := by
  rcases r with r | ⟨o, r⟩
  · exact x a u r
  · obtain ⟨_, q⟩ := x a _ r
    exact q
noncomputable def Mut : Option HO → Prop
  | some (.lst _) => True
  | some (.dK _) => True
  | some (.dT _) => True
  | some (.set _ _) => True
  | some (.ins _ _ _) => True
  | some (.ext _) => True
  | _ => False
section
variable {P : Program} {w : World} {H : Hp} {h h' : Heap} {x e : Addr} {o' : HO}
theorem HOk.write (ok : HOk P w H h) (mu : Mut (H x)) (he : e = x ∨ H e = some (.own x)) (k : ∀ b u, b ≠ e → h.get? b = some u → h'.get? b = some u) (heo : ∃ u, h'.get? e = some u)
    (new : ObjOk P w (upd H x o') h' x o') : HOk P w (upd H x o') h' := fun b u q => by
  have nown : ∀ c y, H c = some (.own y) → c ≠ x := fun c y r z => by subst z; rw [r] at mu; exact mu
  have ntup : ∀ c xs, H c = some (.tup xs) → c ≠ x := fun c xs r z => by subst z; rw [r] at mu; exact mu
  by_cases hb : b = x
  · subst hb; rw [upd_same] at q; cases q; exact new
  · rw [upd_ne hb] at q
    by_cases hbe : b = e
    · have q' : H b = some (.own x) := by
        rcases he with z | z
        · exact absurd (hbe.trans z) hb
        · rw [hbe]; exact z
      rw [q] at q'; cases q'
      obtain ⟨v, hv⟩ := heo
      exact ⟨v, by rw [hbe]; exact hv⟩
    · refine (ok b u q).stay (fun c v hc r => k c v ?_ r) (fun c r => by rw [upd_ne (nown c b r)]; exact r) fun c xs r => by rw [upd_ne (ntup c xs r)]; exact r
      rcases hc with rfl | hc
      · exact hbe
      · rintro rfl
        rcases he with z | z
        · exact nown c b hc z
        · rw [hc] at z; cases z; exact hb rfl
end
structure Un (fs ex : List Addr) (H H' : Hp) (h h' : Heap) : Prop where
  keep : ∀ b o, h.get? b = some o → H b = none → b ∉ fs → b ∉ ex → h'.get? b = some o
  slot : ∀ b o, h.get? b = some o → H b = none → b ∈ fs → b ∉ ex → ∃ sl, h'.get? b = some { o with slots := sl }
  free : ∀ b o, h.get? b = some o → H b = none → b ∉ ex → H' b = none
  there : ∀ b o, h.get? b = some o → b ∉ ex → ∃ o', h'.get? b = some o'
  tups : ∀ b xs, H b = some (.tup xs) → H' b = some (.tup xs)
  frzs : ∀ b o u, H b = some (.frz o u) → H' b = some (.frz o u)
  tbls : ∀ b ps, H b = some (.tbl ps) → ∃ more, H' b = some (.tbl (ps ++ more))
section
variable {fs fs' ex ex' : List Addr} {H H1 H2 : Hp} {h h1 h2 h' : Heap} {a x e : Addr} {o : HO}
theorem Un.any (u : Un fs ex H H1 h h1) {b : Addr} {ob : Obj} (q : h.get? b = some ob) (n : H b = none) (hx : b ∉ ex) : ∃ sl, h1.get? b = some { ob with slots := sl } := by
  by_cases hb : b ∈ fs
  · exact u.slot b ob q n hb hx
  · exact ⟨ob.slots, u.keep b ob q n hb hx⟩
theorem Un.trans (a : Un fs ex H H1 h h1) (b : Un fs ex H1 H2 h1 h2) : Un fs ex H H2 h h2 where
  keep := fun c ob q n hc hx => b.keep c ob (a.keep c ob q n hc hx) (a.free c ob q n hx) hc hx
  slot := fun c ob q n hc hx => by
    obtain ⟨sl, e1⟩ := a.slot c ob q n hc hx
    obtain ⟨sl', e2⟩ := b.slot c _ e1 (a.free c ob q n hx) hc hx
    exact ⟨sl', e2⟩
  free := fun c ob q n hx => by
    obtain ⟨o', e1⟩ := a.there c ob q hx
    exact b.free c o' e1 (a.free c ob q n hx) hx
  there := fun c ob q hx => by
    obtain ⟨o', e1⟩ := a.there c ob q hx
    exact b.there c o' e1 hx
  tups := fun c xs q => b.tups c xs (a.tups c xs q)
  frzs := fun c ob xs q => b.frzs c ob xs (a.frzs c ob xs q)
  tbls := fun c ps q => by
    obtain ⟨m1, e1⟩ := a.tbls c ps q
    obtain ⟨m2, e2⟩ := b.tbls c _ e1
    exact ⟨m1 ++ m2, by rw [e2, Array.append_assoc]⟩
theorem Un.kept (k : ∀ b u, h.get? b = some u → h'.get? b = some u) : Un fs ex H H h h' :=
  ⟨fun b ob q _ _ _ => k b ob q, fun b ob q _ _ _ => ⟨ob.slots, k b ob q⟩, fun _ _ _ n _ => n, fun b ob q _ => ⟨ob, k b ob q⟩, fun _ _ q => q, fun _ _ _ q => q, fun _ ps q => ⟨#[], by rw [q]; simp⟩⟩
theorem Un.refl : Un fs ex H H h h := Un.kept fun _ _ q => q
theorem Un.laid (k : ∀ b u, h.get? b = some u → h'.get? b = some u) (hp : h.objs.size ≤ a) (hn : H a = none) : Un fs ex H (upd H a o) h h' where
  keep := fun b u q _ _ _ => k b u q
  slot := fun b u q _ _ _ => ⟨u.slots, k b u q⟩
  free := fun b u q n _ => by rw [upd_ne (Nat.ne_of_lt (Nat.lt_of_lt_of_le (Heap.lt_size q) hp))]; exact n
  there := fun b u q _ => ⟨u, k b u q⟩
  tups := fun b xs q => by rw [upd_ne (ne_of_none q hn)]; exact q
  frzs := fun b u xs q => by rw [upd_ne (ne_of_none q hn)]; exact q
  tbls := fun b ps q => ⟨#[], by rw [upd_ne (ne_of_none q hn), q]; simp⟩
theorem Un.write (mu : Mut (H x)) (he : e = x ∨ H e = some (.own x)) (k : ∀ b u, b ≠ e → h.get? b = some u → h'.get? b = some u) (heo : ∃ u, h'.get? e = some u) : Un fs ex H (upd H x o) h h' := by
  have hx : ∀ b, H b = none → b ≠ x := fun b n z => by subst z; rw [n] at mu; exact mu
  have hb : ∀ b, H b = none → b ≠ e := fun b n z => by
    subst z
    rcases he with r | r
    · exact hx b n r
    · rw [n] at r; cases r
  have hm : ∀ b u, H b = some u → ¬ Mut (some u) → b ≠ x := fun b u q nm z => by subst z; rw [q] at mu; exact nm mu
  refine ⟨fun b u q n _ _ => k b u (hb b n) q, fun b u q n _ _ => ⟨u.slots, k b u (hb b n) q⟩, fun b u q n _ => by rw [upd_ne (hx b n)]; exact n, fun b u q _ => ?_,
    fun b xs q => by rw [upd_ne (hm b _ q fun z => z)]; exact q, fun b u xs q => by rw [upd_ne (hm b _ q fun z => z)]; exact q, fun b ps q => ⟨#[], by rw [upd_ne (hm b _ q fun z => z), q]; simp⟩⟩
  by_cases hbe : b = e
  · subst hbe; exact heo
  · exact ⟨u, k b u hbe q⟩
theorem Un.mono (u : Un fs ex H H1 h h1) (hs : ∀ b ∈ fs, b ∈ fs') (hx : ∀ b ∈ ex, b ∈ ex') : Un fs' ex' H H1 h h1 :=
  ⟨fun b ob q n hb he => u.keep b ob q n (fun z => hb (hs b z)) fun z => he (hx b z), fun _ _ q n _ he => u.any q n fun z => he (hx _ z), fun b ob q n he => u.free b ob q n fun z => he (hx b z), fun b ob q he => u.there b ob q fun z => he (hx b z), u.tups, u.frzs, u.tbls⟩
end
noncomputable def trk (h : Heap) (H : Hp) : List Addr := (List.range h.objs.size).filter fun a => (H a).isSome
noncomputable def hidT (h : Heap) (H : Hp) : Heap := PySem.W.hideAll h (trk h H)
theorem hidT_size (h : Heap) (H : Hp) : (hidT h H).objs.size = h.objs.size := PySem.W.hideAll_size _ _
theorem hidT_get {h : Heap} {H : Hp} {b : Addr} {o : Obj} (e : h.get? b = some o) (n : H b = none) : (hidT h H).get? b = some o :=
  PySem.W.hideAll_get _ e fun hm => by
    have q : (H b).isSome = true := (List.mem_filter.mp hm).2
    rw [n] at q; simp at q
theorem of_hidT {h : Heap} {H : Hp} {b : Addr} {o : Obj} (e : (hidT h H).get? b = some o) : h.get? b = some o ∧ H b = none := by
  have e' : h.get? b = some o := PySem.W.of_hideAll (trk h H) e
  refine ⟨e', ?_⟩
  cases q : H b with
  | none => rfl
  | some x =>
    have hm : b ∈ trk h H := List.mem_filter.mpr ⟨List.mem_range.mpr (Heap.lt_size e'), by simp [q]⟩
    have z : (hidT h H).get? b = none := PySem.W.hideAll_none (trk h H) hm
    rw [z] at e; cases e
noncomputable def allNews (g h : Heap) (L : Addr) : List (Addr × Obj) := (List.range h.objs.size).filterMap fun a => if a = L ∨ (g.get? a).isSome = true then none else (h.get? a).map fun o => (a, o)
noncomputable def rest (g h : Heap) (L d : Addr) : List (Addr × Obj) := (allNews g h L).filter fun p => decide (p.1 ≠ d)
end L2
namespace L2
open PySem PySem.Spec PyProof.Rows
structure Mod (K : PySem.W.Frag) (mg : Str → Option Value) (base : Heap) : Prop where
  kin : K.In base
  glob : base.Ns mainGlobals mg
  blt : ∃ mb, base.Ns builtinsNs mb ∧ ∀ x : Str, x ≠ "__name__" → mb x = bootBuiltins x
  nolimit : base.NoLimit
structure Cx where
  prog : Program
  w : World
  K : PySem.W.Frag
  mg : Str → Option Value
  base : Heap
  A : Around
  N : List Str
  s₀ : Shared
  H₀ : Hp
  env : Env
  outer : List Env
  stack : List Env
  ex : List Addr
  fn : Str → Bool
  calm : Bool
  pn : List (Addr × Obj)
  xe : Value → Shared → Prop
noncomputable def frs (l : List Env) : List Addr := l.filterMap (·.frame)
noncomputable abbrev Cx.fs (X : Cx) : List Addr := frs X.outer
noncomputable def Vis (sc : Scope) (x : Str) : Prop := sc.names.lookup x = some .local ∨ sc.names.lookup x = some .cell ∨ sc.names.lookup x = some .free
noncomputable def Loc (sc : Scope) (x : Str) : Prop := sc.names.lookup x = some .local ∨ sc.names.lookup x = some .cell
noncomputable def Look (env : Env) (h : Heap) (m : Str → Option Value) (x : Str) (u : Value) : Prop :=
  (env.kindOf x = some .local ∧ m x = some u) ∨ ((env.kindOf x = some .cell ∨ env.kindOf x = some .free) ∧ ∃ c, env.cells.lookup x = some c ∧ h.IsCell c (some u))
structure Cx.Ok (X : Cx) : Prop where
  mod : Mod X.K X.mg X.base
  kind : X.env.scope.kind = .function
  glob : X.env.globals = mainGlobals
  blt : X.env.builtins = builtinsNs
  above : X.s₀.heap.objs.size ≤ X.env.locals
  inj : ∀ x y c, X.env.cells.lookup x = some c → X.env.cells.lookup y = some c → x = y
  has : ∀ x, (X.env.kindOf x = some .cell ∨ X.env.kindOf x = some .free) → ∃ c, X.env.cells.lookup x = some c
  cab : ∀ x c, X.fn x = true → X.env.cells.lookup x = some c → X.s₀.heap.objs.size ≤ c
  hd : X.calm = true → X.A.handled = none
  frames : X.A.frames = some X.stack
  stk : X.stack = X.outer ∨ (X.stack = X.env :: X.outer ∧ X.env.frame = some X.env.locals)
  exf : ∀ b ∈ X.ex, b ≠ X.env.locals ∧ ∀ x c, X.env.cells.lookup x = some c → c ≠ b
  bs : ∀ b o, X.base.get? b = some o → X.s₀.heap.get? b = some o ∧ X.H₀ b = none
  bsz : X.base.objs.size ≤ X.s₀.heap.objs.size
  noex : ∀ b o, X.base.get? b = some o → b ∉ X.ex
  exfs : ∀ b ∈ X.ex, b ∉ X.fs
  funs : X.s₀.heap.FunFrames X.base X.outer
  frf : ∀ b ∈ X.fs, X.H₀ b = none
structure Inv (X : Cx) (pins : List (Addr × Obj)) (σ : List (Option V)) (H : Hp) (s : Shared) : Prop where
  ok : X.Ok
  os : s.os = X.s₀.os
  bare : AllBare s.gens
  base : Un X.fs X.ex X.H₀ H X.s₀.heap s.heap
  loc : ∃ m, s.heap.Ns X.env.locals m ∧ ∀ (i : Nat) (x : Str) (v : V), X.N[i]? = some x → σ[i]? = some (some v) → Vis X.env.scope x → ∃ u, RelV v u ∧ Look X.env s.heap m x u
  cell : ∀ x c, X.env.cells.lookup x = some c → ∃ v, s.heap.IsCell c v
  free : H X.env.locals = none
  freeC : ∀ x c, X.env.cells.lookup x = some c → H c = none
  pin : ∀ p ∈ X.pn ++ pins, s.heap.get? p.1 = some p.2 ∧ H p.1 = none ∧ p.1 ≠ X.env.locals ∧ p.1 ∉ X.fs ∧ ∀ v, p.2.data ≠ .cell v
  hok : HOk X.prog X.w H s.heap
  len : σ.length = X.N.length
section
variable {X : Cx} {pins : List (Addr × Obj)} {σ : List (Option V)} {H H' : Hp} {s : Shared} {h' : Heap}
theorem Cx.Ok.nofr (ok : X.Ok) {b : Addr} {o : Obj} (e : X.base.get? b = some o) : b ∉ X.fs := fun hb => by
  have := (ok.funs.mem hb).1
  rw [e] at this; cases this
theorem Inv.bs (I : Inv X pins σ H s) : ∀ b o, X.base.get? b = some o → s.heap.get? b = some o ∧ H b = none := fun b o e =>
  ⟨I.base.keep b o (I.ok.bs b o e).1 (I.ok.bs b o e).2 (I.ok.nofr e) (I.ok.noex b o e), I.base.free b o (I.ok.bs b o e).1 (I.ok.bs b o e).2 (I.ok.noex b o e)⟩
theorem Inv.bk (I : Inv X pins σ H s) : ∀ b o, X.base.get? b = some o → s.heap.get? b = some o := fun b o e => (I.bs b o e).1
theorem Inv.mod (I : Inv X pins σ H s) : Mod X.K X.mg X.base := I.ok.mod
theorem Inv.kIn (I : Inv X pins σ H s) : X.K.In s.heap := I.ok.mod.kin.keeps I.bk
theorem Inv.nolimit (I : Inv X pins σ H s) : s.heap.NoLimit := I.ok.mod.nolimit.keeps I.bk
theorem Inv.fr (I : Inv X pins σ H s) : ∃ m, Fr X.base X.env.locals s.heap m :=
  let ⟨m, hn, _⟩ := I.loc
  ⟨m, hn, I.bk, Nat.le_trans I.ok.bsz I.ok.above⟩
theorem Inv.lt (I : Inv X pins σ H s) : X.env.locals < s.heap.objs.size := let ⟨_, hn, _⟩ := I.loc; hn.lt
theorem Inv.sz (I : Inv X pins σ H s) : X.s₀.heap.objs.size ≤ s.heap.objs.size := Nat.le_trans I.ok.above (Nat.le_of_lt I.lt)
theorem Inv.nofs (I : Inv X pins σ H s) {a : Addr} (h : s.heap.objs.size ≤ a) : a ∉ X.fs := fun hb => by
  obtain ⟨_, o, ho, _⟩ := I.ok.funs.mem hb
  exact absurd (Nat.lt_of_lt_of_le (Heap.lt_size ho) (Nat.le_trans I.sz h)) (Nat.lt_irrefl _)
theorem Inv.cne (I : Inv X pins σ H s) : ∀ x c, X.env.cells.lookup x = some c → c ≠ X.env.locals := fun x c e z => by
  obtain ⟨v, o, ho, hd⟩ := I.cell x c e
  obtain ⟨m, ⟨o', es, ep, ho', hd', _⟩, _⟩ := I.loc
  rw [z, ho'] at ho; cases ho; rw [hd'] at hd; cases hd
theorem Inv.funs (I : Inv X pins σ H s) : s.heap.FunFrames X.base X.outer := by
  have all : ∀ (l : List Env), (∀ b ∈ frs l, b ∈ X.fs) → X.s₀.heap.FunFrames X.base l → s.heap.FunFrames X.base l := by
    intro l
    induction l with
    | nil => intro _ _; trivial
    | cons env r ih =>
      intro hs hl
      obtain ⟨hk, ⟨L, o, hf, hn, ho, hd⟩, hr⟩ := hl
      have hL : L ∈ X.fs := hs L (by unfold frs; rw [List.filterMap_cons, hf]; exact List.mem_cons_self)
      obtain ⟨sl, e⟩ := I.base.slot L o ho (I.ok.frf L hL) hL fun z => I.ok.exfs L z hL
      exact ⟨hk, ⟨L, _, hf, hn, e, hd⟩, ih (fun b hb => hs b (by unfold frs; rw [List.filterMap_cons, hf]; exact List.mem_cons_of_mem _ hb)) hr⟩
  exact all X.outer (fun _ hb => hb) I.ok.funs
theorem Inv.stack (I : Inv X pins σ H s) : s.heap.FunFrames X.base X.stack := by
  rcases I.ok.stk with e | ⟨e, hf⟩
  · rw [e]; exact I.funs
  · rw [e]
    obtain ⟨m, hn, _⟩ := I.loc
    refine .cons (by rw [I.ok.kind]; decide) hf hn ?_ I.funs
    exact Heap.get?_none_of_le (Nat.le_trans I.ok.bsz I.ok.above)
theorem Inv.stkSub (I : Inv X pins σ H s) : ∀ b ∈ frs X.stack, b ∈ X.env.locals :: X.fs := fun b hb => by
  rcases I.ok.stk with e | ⟨e, hf⟩
  · rw [e] at hb; exact List.mem_cons_of_mem _ hb
  · rw [e] at hb
    unfold frs at hb
    rw [List.filterMap_cons, hf] at hb
    exact hb
theorem Inv.stkFree (I : Inv X pins σ H s) : ∀ b ∈ frs X.stack, H b = none := fun b hb => by
  rcases List.mem_cons.mp (I.stkSub b hb) with e | hb
  · rw [e]; exact I.free
  · obtain ⟨_, o, ho, _⟩ := I.ok.funs.mem hb
    exact I.base.free b o ho (I.ok.frf b hb) fun z => I.ok.exfs b z hb
theorem Inv.step {g' : Array GenState} {t' : Nat} {d' : Drawn} {ch : List Addr} (I : Inv X pins σ H s)
    (hch : ∀ b ∈ ch, (b ∈ X.ex ∨ X.s₀.heap.objs.size ≤ b) ∧ b ≠ X.env.locals ∧ (∀ x c, X.env.cells.lookup x = some c → c ≠ b) ∧ ∀ p ∈ X.pn ++ pins, p.1 ≠ b)
    (keep : ∀ b o, b ≠ X.env.locals → b ∉ X.fs → b ∉ ch → s.heap.get? b = some o → H b = none → h'.get? b = some o)
    (slot : ∀ b o, b ≠ X.env.locals → b ∈ X.fs → b ∉ ch → s.heap.get? b = some o → H b = none → ∃ sl, h'.get? b = some { o with slots := sl }) (free : ∀ b o, b ∉ ch → s.heap.get? b = some o → H b = none → H' b = none)
    (there : ∀ b o, b ∉ ch → s.heap.get? b = some o → ∃ o', h'.get? b = some o')
    (tups : ∀ b xs, H b = some (.tup xs) → H' b = some (.tup xs)) (frzs : ∀ b o u, H b = some (.frz o u) → H' b = some (.frz o u)) (tbls : ∀ b ps, H b = some (.tbl ps) → ∃ more, H' b = some (.tbl (ps ++ more)))
    (ns : ∀ m, s.heap.Ns X.env.locals m → h'.Ns X.env.locals m) (hok : HOk X.prog X.w H' h') (hg : AllBare g') :
    Inv X pins σ H' { s with heap := h', gens := g', drawn := d', toks := t' } := by
  have neL : ∀ b o, X.s₀.heap.get? b = some o → b ≠ X.env.locals := fun b o e => Nat.ne_of_lt (Nat.lt_of_lt_of_le (Heap.lt_size e) I.ok.above)
  have neC : ∀ b o, X.s₀.heap.get? b = some o → b ∉ X.ex → b ∉ ch := fun b o e hx hb => by
    rcases (hch b hb).1 with z | z
    · exact hx z
    · exact absurd (Nat.lt_of_lt_of_le (Heap.lt_size e) z) (Nat.lt_irrefl _)
  have cellK : ∀ x c, X.env.cells.lookup x = some c → ∀ v, s.heap.IsCell c v → h'.IsCell c v := fun x c e v ⟨o, ho, hd⟩ => by
    have nch : c ∉ ch := fun z => (hch c z).2.2.1 x c e rfl
    by_cases hc : c ∈ X.fs
    · obtain ⟨sl, q⟩ := slot c o (I.cne x c e) hc nch ho (I.freeC x c e)
      exact ⟨_, q, hd⟩
    · exact ⟨o, keep c o (I.cne x c e) hc nch ho (I.freeC x c e), hd⟩
  refine ⟨I.ok, I.os, hg, ⟨fun b o e n hb hx => ?_, fun b o e n hb hx => ?_, fun b o e n hx => ?_, fun b o e hx => ?_, fun b xs e => tups b xs (I.base.tups b xs e), fun b o xs e => frzs b o xs (I.base.frzs b o xs e), fun b ps e => ?_⟩, ?_, fun x c e => ?_, ?_, fun x c e => ?_, fun p hp => ?_, hok, I.len⟩
  · exact keep b o (neL b o e) hb (neC b o e hx) (I.base.keep b o e n hb hx) (I.base.free b o e n hx)
  · obtain ⟨sl, e1⟩ := I.base.slot b o e n hb hx
    obtain ⟨sl', e2⟩ := slot b _ (neL b o e) hb (neC b o e hx) e1 (I.base.free b o e n hx)
    exact ⟨sl', e2⟩
  · obtain ⟨o', e1⟩ := I.base.there b o e hx
    exact free b o' (neC b o e hx) e1 (I.base.free b o e n hx)
  · obtain ⟨o', e1⟩ := I.base.there b o e hx
    exact there b o' (neC b o e hx) e1
  · obtain ⟨m1, e1⟩ := I.base.tbls b ps e
    obtain ⟨m2, e2⟩ := tbls b _ e1
    exact ⟨m1 ++ m2, by rw [e2, Array.append_assoc]⟩
  · obtain ⟨m, hn, hl⟩ := I.loc
    refine ⟨m, ns m hn, fun i x v e1 e2 e3 => ?_⟩
    obtain ⟨u, r, l⟩ := hl i x v e1 e2 e3
    refine ⟨u, r, ?_⟩
    rcases l with l | ⟨k, c, e, z⟩
    · exact .inl l
    · exact .inr ⟨k, c, e, cellK x c e _ z⟩
  · obtain ⟨v, z⟩ := I.cell x c e
    exact ⟨v, cellK x c e v z⟩
  · obtain ⟨m, ⟨o, _, _, ho, _⟩, _⟩ := I.loc
    exact free _ o (fun z => (hch _ z).2.1 rfl) ho I.free
  · obtain ⟨v, o, ho, hd⟩ := I.cell x c e
    exact free c o (fun z => (hch c z).2.2.1 x c e rfl) ho (I.freeC x c e)
  · obtain ⟨e, n, ne, nf, d⟩ := I.pin p hp
    have nch : p.1 ∉ ch := fun z => (hch p.1 z).2.2.2 p hp rfl
    exact ⟨keep p.1 p.2 ne nf nch e n, free p.1 p.2 nch e n, ne, nf, d⟩
theorem Inv.un {t' : Nat} (I : Inv X pins σ H s) (u : Un X.fs [] H H' s.heap h') (hok : HOk X.prog X.w H' h') : Inv X pins σ H' { s with heap := h', toks := t' } := by
  obtain ⟨m, ⟨o, es, ep, ho, r⟩, _⟩ := id I.loc
  obtain ⟨sl, hL⟩ := u.any ho I.free (by simp)
  exact I.step (g' := s.gens) (d' := s.drawn) (ch := []) (fun _ z => nomatch z) (fun b o _ hb _ e n => u.keep b o e n hb (by simp)) (fun b o _ hb _ e n => u.slot b o e n hb (by simp)) (fun b o _ e n => u.free b o e n (by simp)) (fun b o _ e => u.there b o e (by simp)) u.tups u.frzs u.tbls (fun m' hm => by
    obtain ⟨o', es', ep', ho', r'⟩ := hm
    rw [ho] at ho'; cases ho'
    exact ⟨_, es', ep', hL, r'⟩) hok I.bare
theorem Inv.call {g' : Array GenState} {t' : Nat} {d' : Drawn} {ch : List Addr} (I : Inv X pins σ H s) (u : Un (frs X.stack) ch H H' s.heap h') (hok : HOk X.prog X.w H' h') (hg : AllBare g')
    (hch : ∀ b ∈ ch, (b ∈ X.ex ∨ X.s₀.heap.objs.size ≤ b) ∧ b ≠ X.env.locals ∧ (∀ x c, X.env.cells.lookup x = some c → c ≠ b) ∧ ∀ p ∈ X.pn ++ pins, p.1 ≠ b) :
    Inv X pins σ H' { s with heap := h', gens := g', drawn := d', toks := t' } := by
  obtain ⟨m, ⟨o, es, ep, ho, r⟩, _⟩ := id I.loc
  obtain ⟨sl, hL⟩ := u.any ho I.free fun z => (hch _ z).2.1 rfl
  exact I.step (ch := ch) hch (fun b o hL hb hc e n => u.keep b o e n (fun z => (List.mem_cons.mp (I.stkSub b z)).elim hL hb) hc) (fun b o _ _ hc e n => u.any e n hc) (fun b o hc e n => u.free b o e n hc) (fun b o hc e => u.there b o e hc) u.tups u.frzs u.tbls (fun m' hm => by
    obtain ⟨o', es', ep', ho', r'⟩ := hm
    rw [ho] at ho'; cases ho'
    exact ⟨_, es', ep', hL, r'⟩) hok hg
theorem Inv.turned {t' : Nat} {it : Addr} (I : Inv X pins σ H s) (k : ∀ b o, b ≠ it → s.heap.get? b = some o → h'.get? b = some o) (hn : H it = none) (hL : it ≠ X.env.locals)
    (h1 : it ∈ X.ex ∨ X.s₀.heap.objs.size ≤ it) (h2 : ∀ x c, X.env.cells.lookup x = some c → c ≠ it) (h3 : ∀ p ∈ X.pn ++ pins, p.1 ≠ it) : Inv X pins σ H { s with heap := h', toks := t' } := by
  have nit : ∀ b u, H b = some u → b ≠ it := fun b u e z => by rw [z, hn] at e; cases e
  refine I.step (g' := s.gens) (d' := s.drawn) (ch := [it]) (fun b hb => ?_) (fun b o _ _ hc e _ => k b o (fun z => hc (by simp [z])) e) (fun b o _ _ hc e _ => ⟨o.slots, k b o (fun z => hc (by simp [z])) e⟩) (fun _ _ _ _ n => n)
    (fun b o hc e => ⟨o, k b o (fun z => hc (by simp [z])) e⟩) (fun _ _ e => e) (fun _ _ _ e => e) (fun b ps e => ⟨#[], by rw [e]; simp⟩) (fun m hm => ?_) (fun b u e => ?_) I.bare
  · have e : b = it := by simpa using hb
    subst e
    exact ⟨h1, hL, h2, h3⟩
  · obtain ⟨o, es, ep, ho, r⟩ := hm
    exact ⟨o, es, ep, k _ o (Ne.symm hL) ho, r⟩
  · refine (I.hok b u e).stay (fun c v hc q => k c v ?_ q) (fun _ q => q) fun _ _ q => q
    rcases hc with z | z
    · rw [z]; exact nit b u e
    · exact nit c _ z
theorem Inv.tok (I : Inv X pins σ H s) (t : Nat) : Inv X pins σ H { s with toks := t } := I.un (h' := s.heap) (t' := t) Un.refl I.hok
theorem Inv.kept {t' : Nat} (I : Inv X pins σ H s) (k : ∀ b u, s.heap.get? b = some u → h'.get? b = some u) : Inv X pins σ H { s with heap := h', toks := t' } := I.un (Un.kept k) (I.hok.kept k)
theorem Inv.laid {a : Addr} {o : HO} {t' : Nat} (I : Inv X pins σ H s) (k : ∀ b u, s.heap.get? b = some u → h'.get? b = some u) (hp : s.heap.objs.size ≤ a) (new : ObjOk X.prog X.w (upd H a o) h' a o) :
    Inv X pins σ (upd H a o) { s with heap := h', toks := t' } := I.un (Un.laid k hp (I.hok.fresh hp)) (I.hok.laid k hp new)
theorem Inv.write {x e : Addr} {o : HO} {t' : Nat} (I : Inv X pins σ H s) (mu : Mut (H x)) (he : e = x ∨ H e = some (.own x)) (k : ∀ b u, b ≠ e → s.heap.get? b = some u → h'.get? b = some u) (heo : ∃ u, h'.get? e = some u)
    (new : ObjOk X.prog X.w (upd H x o) h' x o) : Inv X pins σ (upd H x o) { s with heap := h', toks := t' } := I.un (Un.write mu he k heo) (I.hok.write mu he k heo new)
theorem Inv.pins_of {pins' : List (Addr × Obj)} (I : Inv X pins σ H s) (h : ∀ p ∈ pins', s.heap.get? p.1 = some p.2 ∧ H p.1 = none ∧ p.1 ≠ X.env.locals ∧ p.1 ∉ X.fs ∧ ∀ v, p.2.data ≠ .cell v) : Inv X pins' σ H s :=
  ⟨I.ok, I.os, I.bare, I.base, I.loc, I.cell, I.free, I.freeC, fun p hp => (List.mem_append.mp hp).elim (fun z => I.pin p (List.mem_append_left _ z)) (h p), I.hok, I.len⟩
theorem nodup_ix {N : List Str} (hN : N.Nodup) {i j : Nat} {x : Str} (a : N[i]? = some x) (b : N[j]? = some x) : i = j := by
  obtain ⟨h1, e1⟩ := List.getElem?_eq_some_iff.mp a
  obtain ⟨h2, e2⟩ := List.getElem?_eq_some_iff.mp b
  exact (List.getElem_inj hN).mp (e1.trans e2.symm)
theorem store_ok2 {M : Model} {A : Around} {E : Value → Shared → Prop} {i : Nat} {x : Str} {v : V} {u : Value} {Q : Unit → Shared → Prop} (I : Inv X pins σ H s) (hN : X.N.Nodup) (hi : X.N[i]? = some x) (hx : Loc X.env.scope x) (r : RelV v u)
    (h : ∀ s', Inv X pins (σ.set i (some v)) H s' → (∃ a, Heap.SameBut a s.heap s'.heap ∧ (a = X.env.locals ∨ X.env.cells.lookup x = some a)) → Q () s') (hf : X.fn x = true ∨ X.env.scope.names.lookup x = some .local := by first | exact .inl rfl | exact .inr rfl | assumption) : wpAny M A (storeName X.env x u) Q E s := by
  obtain ⟨m, hn, hl⟩ := id I.loc
  have hcls : (X.env.scope.kind == .class || (X.env.scope.kind == .module && X.env.locals != X.env.globals)) = false := by rw [I.ok.kind]; rfl
  have hiσ : i < σ.length := by rw [I.len]; exact (List.getElem?_eq_some_iff.mp hi).1
  have cne := I.cne
  have tracked : ∀ {a : Addr} {h' : Heap}, (∃ o, s.heap.get? a = some o ∧ H a = none) → Heap.SameBut a s.heap h' → HOk X.prog X.w H h' := fun {a h'} ha hs b ob e => by
    obtain ⟨_, _, hfree⟩ := ha
    refine (I.hok b ob e).stay (fun c w' hc q => (hs.2 c ?_).trans q) (fun _ q => q) fun _ _ q => q
    rintro rfl
    rcases hc with rfl | hc
    · rw [hfree] at e; cases e
    · rw [hfree] at hc; cases hc
  rcases hx with hk | hk
  · refine wpAny_storeName_local hk hn (fun h' hn' hs => ?_) hcls
    obtain ⟨oL, _, _, hoL, _⟩ := id hn
    refine h _ ⟨I.ok, I.os, I.bare, ⟨fun b o e n hb hx => ?_, fun b o e n hb hx => ?_, I.base.free, fun b o e hx => ?_, I.base.tups, I.base.frzs, I.base.tbls⟩, ⟨_, hn', fun j y v' e1 e2 e3 => ?_⟩, fun y c e => ?_, I.free, I.freeC, fun p hp => ?_, tracked ⟨oL, hoL, I.free⟩ hs, by simpa using I.len⟩ ⟨_, hs, .inl rfl⟩
    · exact (hs.2 b (Nat.ne_of_lt (Nat.lt_of_lt_of_le (Heap.lt_size e) I.ok.above))).trans (I.base.keep b o e n hb hx)
    · obtain ⟨sl, e1⟩ := I.base.slot b o e n hb hx
      exact ⟨sl, (hs.2 b (Nat.ne_of_lt (Nat.lt_of_lt_of_le (Heap.lt_size e) I.ok.above))).trans e1⟩
    · obtain ⟨o', e1⟩ := I.base.there b o e hx
      exact ⟨o', (hs.2 b (Nat.ne_of_lt (Nat.lt_of_lt_of_le (Heap.lt_size e) I.ok.above))).trans e1⟩
    · by_cases hj : j = i
      · subst hj
        rw [hi] at e1; cases e1
        rw [List.getElem?_set_self hiσ] at e2
        cases e2
        exact ⟨u, r, .inl ⟨hk, by simp⟩⟩
      · rw [List.getElem?_set_ne (Ne.symm hj)] at e2
        obtain ⟨u', r', q⟩ := hl j y v' e1 e2 e3
        refine ⟨u', r', ?_⟩
        rcases q with ⟨k, e⟩ | ⟨k, c, e, z⟩
        · refine .inl ⟨k, ?_⟩
          have : y ≠ x := fun e => hj (nodup_ix hN e1 (e ▸ hi))
          simp [this, e]
        · exact .inr ⟨k, c, e, z.sameBut hs (cne y c e)⟩
    · obtain ⟨w', z⟩ := I.cell y c e
      exact ⟨w', z.sameBut hs (cne y c e)⟩
    · obtain ⟨e, n, ne, nf, d⟩ := I.pin p hp
      exact ⟨(hs.2 p.1 ne).trans e, n, ne, nf, d⟩
  · have hfn : X.fn x = true := by
      rcases hf with z | z
      · exact z
      · rw [z] at hk; cases hk
    obtain ⟨c, hc⟩ := I.ok.has x (.inl hk)
    obtain ⟨w', z⟩ := I.cell x c hc
    refine wpAny_storeName_cell I.ok.kind hk hc z (fun h' hc' hs => ?_)
    obtain ⟨oc, hoc, hocd⟩ := id z
    refine h { s with heap := h' } ⟨I.ok, I.os, I.bare, ⟨fun b o e n hb hx => ?_, fun b o e n hb hx => ?_, I.base.free, fun b o e hx => ?_, I.base.tups, I.base.frzs, I.base.tbls⟩, ⟨m, hn.sameBut hs (Ne.symm (cne x c hc)), fun j y v' e1 e2 e3 => ?_⟩, fun y c' e => ?_, I.free, I.freeC, fun p hp => ?_, tracked ⟨oc, hoc, I.freeC x c hc⟩ hs, by simpa using I.len⟩ ⟨c, hs, .inr hc⟩
    · exact (hs.2 b (Nat.ne_of_lt (Nat.lt_of_lt_of_le (Heap.lt_size e) (I.ok.cab x c hfn hc)))).trans (I.base.keep b o e n hb hx)
    · obtain ⟨sl, e1⟩ := I.base.slot b o e n hb hx
      exact ⟨sl, (hs.2 b (Nat.ne_of_lt (Nat.lt_of_lt_of_le (Heap.lt_size e) (I.ok.cab x c hfn hc)))).trans e1⟩
    · obtain ⟨o', e1⟩ := I.base.there b o e hx
      exact ⟨o', (hs.2 b (Nat.ne_of_lt (Nat.lt_of_lt_of_le (Heap.lt_size e) (I.ok.cab x c hfn hc)))).trans e1⟩
    · by_cases hj : j = i
      · subst hj
        rw [hi] at e1; cases e1
        rw [List.getElem?_set_self hiσ] at e2
        cases e2
        exact ⟨u, r, .inr ⟨.inl hk, c, hc, hc'⟩⟩
      · rw [List.getElem?_set_ne (Ne.symm hj)] at e2
        obtain ⟨u', r', q⟩ := hl j y v' e1 e2 e3
        refine ⟨u', r', ?_⟩
        rcases q with q | ⟨k, c', e, z'⟩
        · exact .inl q
        · refine .inr ⟨k, c', e, z'.sameBut hs ?_⟩
          rintro rfl
          exact hj (nodup_ix hN e1 (I.ok.inj _ _ _ e hc ▸ hi))
    · by_cases hcc : c' = c
      · subst hcc; exact ⟨_, hc'⟩
      · obtain ⟨w2, z2⟩ := I.cell y c' e
        exact ⟨w2, z2.sameBut hs hcc⟩
    · obtain ⟨e, n, ne, nf, d⟩ := I.pin p hp
      refine ⟨(hs.2 p.1 ?_).trans e, n, ne, nf, d⟩
      intro q
      rw [q, hoc] at e
      have q' : oc = p.2 := Option.some.inj e
      exact d w' (by rw [← q']; exact hocd)
theorem store_ok {M : Model} {A : Around} {E : Value → Shared → Prop} {i : Nat} {x : Str} {v : V} {u : Value} {Q : Unit → Shared → Prop} (I : Inv X pins σ H s) (hN : X.N.Nodup) (hi : X.N[i]? = some x) (hx : Loc X.env.scope x) (r : RelV v u)
    (h : ∀ s', Inv X pins (σ.set i (some v)) H s' → Q () s') (hf : X.fn x = true ∨ X.env.scope.names.lookup x = some .local := by first | exact .inl rfl | exact .inr rfl | assumption) : wpAny M A (storeName X.env x u) Q E s :=
  store_ok2 I hN hi hx r (fun s' I' _ => h s' I') hf
theorem Inv.call' {s' : Shared} {ch : List Addr} (I : Inv X pins σ H s) (ho : s'.os = s.os) (u : Un (frs X.stack) ch H H' s.heap s'.heap) (hok : HOk X.prog X.w H' s'.heap) (hg : AllBare s'.gens)
    (hch : ∀ b ∈ ch, (b ∈ X.ex ∨ X.s₀.heap.objs.size ≤ b) ∧ b ≠ X.env.locals ∧ (∀ x c, X.env.cells.lookup x = some c → c ≠ b) ∧ ∀ p ∈ X.pn ++ pins, p.1 ≠ b) : Inv X pins σ H' s' := by
  obtain ⟨h', g', d', t', o'⟩ := s'
  have e : o' = s.os := ho
  subst e
  exact I.call (g' := g') (t' := t') (d' := d') u hok hg hch
end
noncomputable abbrev XK := Value → Option Addr → Hp → Prop
noncomputable abbrev St := List (Option V)
noncomputable abbrev VK := V → Hp → Prop
noncomputable abbrev TE := St → Hp → VK → Prop
noncomputable abbrev TT := St → Hp → (Bool → Hp → Prop) → Prop
noncomputable abbrev TA := St → Hp → (List V → Hp → Prop) → Prop
structure Ends where
  nx : St → Hp → Prop
  rt : VK
  bk : St → Hp → Prop := fun _ _ => False
  ct : St → Hp → Prop := fun _ _ => False
noncomputable abbrev TS := Ends → St → Hp → Prop
noncomputable def EP (X : Cx) (pins : List (Addr × Obj)) (σ : St) (Q : VK) (u : Value) (s' : Shared) : Prop := ∃ v H', Inv X pins σ H' s' ∧ RelV v u ∧ Q v H'
noncomputable def TP (X : Cx) (pins : List (Addr × Obj)) (σ : St) (Q : Bool → Hp → Prop) (b : Bool) (s' : Shared) : Prop := ∃ H', Inv X pins σ H' s' ∧ Q b H'
noncomputable def AP (X : Cx) (pins : List (Addr × Obj)) (σ : St) (Q : List V → Hp → Prop) (us : List Value) (s' : Shared) : Prop := ∃ vs H', Inv X pins σ H' s' ∧ Vals vs us ∧ Q vs H'
noncomputable def SP (X : Cx) (pins : List (Addr × Obj)) (D : Ends) (f : Flow) (s' : Shared) : Prop :=
  match f with
  | .next => ∃ σ' H', Inv X pins σ' H' s' ∧ D.nx σ' H'
  | .brk => ∃ σ' H', Inv X pins σ' H' s' ∧ D.bk σ' H'
  | .cont => ∃ σ' H', Inv X pins σ' H' s' ∧ D.ct σ' H'
  | .ret u => ∃ v σ' H', Inv X pins σ' H' s' ∧ RelV v u ∧ D.rt v H'
noncomputable def PE (X : Cx) (e : Expr) (t : TE) : Prop :=
  ∀ (pins : List (Addr × Obj)) (s : Shared) (σ : St) (H : Hp) (Q : VK), Inv X pins σ H s → t σ H Q → wpAny (model X.prog X.w) X.A (eval e X.env) (EP X pins σ Q) X.xe s
noncomputable def PT (X : Cx) (e : Expr) (t : TT) : Prop :=
  ∀ (pins : List (Addr × Obj)) (s : Shared) (σ : St) (H : Hp) (Q : Bool → Hp → Prop), Inv X pins σ H s → t σ H Q → wpAny (model X.prog X.w) X.A (isTrue e X.env (eval e X.env)) (TP X pins σ Q) X.xe s
noncomputable def PW (X : Cx) (e : Expr) (t : TT) : Prop :=
  ∀ (whole : Sem Value) (pins : List (Addr × Obj)) (s : Shared) (σ : St) (H : Hp) (Q : Bool → Hp → Prop), Inv X pins σ H s → t σ H Q → wpAny (model X.prog X.w) X.A (isTrue e X.env whole) (TP X pins σ Q) X.xe s
theorem PW.pt {X : Cx} {e : Expr} {t : TT} (h : PW X e t) : PT X e t := h _
noncomputable def PA (X : Cx) (es : List Expr) (t : TA) : Prop :=
  ∀ (pos : Pos) (pins : List (Addr × Obj)) (s : Shared) (σ : St) (H : Hp) (Q : List V → Hp → Prop), Inv X pins σ H s → t σ H Q → wpAny (model X.prog X.w) X.A (spliced (backTo pos (starEach es X.env))) (AP X pins σ Q) X.xe s
noncomputable def PS (X : Cx) (st : Stmt) (t : TS) : Prop :=
  ∀ (pins : List (Addr × Obj)) (s : Shared) (σ : St) (H : Hp) (D : Ends), Inv X pins σ H s → t D σ H → wpAny (model X.prog X.w) X.A (exec st X.env) (SP X pins D) X.xe s
noncomputable def PSs (X : Cx) (st : List Stmt) (t : TS) : Prop :=
  ∀ (pins : List (Addr × Obj)) (s : Shared) (σ : St) (H : Hp) (D : Ends), Inv X pins σ H s → t D σ H → wpAny (model X.prog X.w) X.A (execs st X.env) (SP X pins D) X.xe s
theorem thn {α : Type} {t : Sem α} {Q Q' : α → Shared → Prop} {M : Model} {A : Around} {E : Value → Shared → Prop} {s : Shared} (h : wpAny M A t Q E s) (hQ : ∀ a s, Q a s → Q' a s) : wpAny M A t Q' E s := wpAny_mono h hQ fun _ _ x => x
end L2
namespace L2
open PySem PySem.Spec PyProof.Rows
section
variable {X : Cx}
noncomputable def tVar (i : Nat) : TE := fun σ H Q => ∃ v, σ[i]? = some (some v) ∧ Q v H
noncomputable def tC (v : V) : TE := fun _ H Q => Q v H
theorem pe_var {i : Nat} {x : Str} {pos : Pos} (hN : X.N[i]? = some x) (hv : Vis X.env.scope x) (hd : (x == ("__debug__" : Str)) = false := by decide) (hcd : (x == ("__classdict__" : Str)) = false := by decide) : PE X (.Name x pos) (tVar i) := by
  intro pins s σ H Q I h
  obtain ⟨v, e, h⟩ := h
  obtain ⟨m, hn, hl⟩ := I.loc
  obtain ⟨u, r, l⟩ := hl i x v hN e hv
  have fin : EP X pins σ Q u s := ⟨v, H, I, r, h⟩
  rcases l with ⟨hk, hm⟩ | ⟨hk, c, hc, hcell⟩
  · exact wpAny_Name (wpAny_loadName_local I.ok.kind hk hn hm fin) hd
  · rcases hk with hk | hk
    · exact wpAny_Name (wpAny_loadName_cell I.ok.kind hk hc hcell fin) hd
    · exact wpAny_Name (wpAny_loadName_free I.ok.kind hk hc hcell fin hcd) hd
theorem pe_int {i j pos} : PE X (.Constant (.int i) j pos) (tC (.int i)) := fun _ _ _ H _ I h => wpAny_Constant_int ⟨.int i, H, I.tok _, ⟨_, rfl⟩, h⟩
theorem pe_bl {b j pos} : PE X (.Constant (.bool b) j pos) (tC (.bl b)) := fun _ _ _ H _ I h => Constant_bool ⟨.bl b, H, I, rfl, h⟩
theorem pe_non {j pos} : PE X (.Constant .none j pos) (tC .non) := fun _ _ _ H _ I h => Constant_none ⟨.non, H, I, rfl, h⟩
theorem pe_str {x j pos} : PE X (.Constant (.str x) j pos) (tC (.str x)) := fun _ _ _ H _ I h => Calls.Constant_str ⟨.str x, H, I.tok _, ⟨_, rfl⟩, h⟩
noncomputable def Gl (X : Cx) (x : Str) : Prop := X.env.kindOf x = some .globalImplicit
theorem ld_glob {E : Value → Shared → Prop} {pins : List (Addr × Obj)} {s : Shared} {σ : St} {H : Hp} {x : Str} {u : Value} {pos : Pos} {Q : Value → Shared → Prop} (I : Inv X pins σ H s) (hg : Gl X x) (hm : X.mg x = some u) (h : Q u s)
    (hd : (x == ("__debug__" : Str)) = false := by decide) : wpAny (model X.prog X.w) X.A (eval (.Name x pos) X.env) Q E s :=
  Calls.Name_function_global I.ok.kind hg (Calls.loadGlobal_global (by rw [I.ok.glob]; exact I.mod.glob.keeps I.bk) hm h) hd
theorem ld_blt {E : Value → Shared → Prop} {pins : List (Addr × Obj)} {s : Shared} {σ : St} {H : Hp} {x : Str} {u : Value} {pos : Pos} {Q : Value → Shared → Prop} (I : Inv X pins σ H s) (hg : Gl X x) (hm : X.mg x = none) (hv : bootBuiltins x = some u) (h : Q u s)
    (hn : x ≠ "__name__" := by decide) (hd : (x == ("__debug__" : Str)) = false := by decide) : wpAny (model X.prog X.w) X.A (eval (.Name x pos) X.env) Q E s := by
  obtain ⟨mb, h1, h2⟩ := I.mod.blt
  exact Calls.Name_function_global I.ok.kind hg (Calls.loadGlobal_builtin (by rw [I.ok.glob]; exact I.mod.glob.keeps I.bk) hm (by rw [I.ok.blt]; exact h1.keeps I.bk) ((h2 x hn).trans hv) h) hd
theorem pe_glob {x : Str} {v : V} {u : Value} {pos : Pos} (hg : Gl X x) (hm : X.mg x = some u) (r : RelV v u) (hd : (x == ("__debug__" : Str)) = false := by decide) : PE X (.Name x pos) (tC v) :=
  fun _ _ _ H _ I h => ld_glob I hg hm ⟨v, H, I, r, h⟩ hd
theorem pe_bltn {x : Str} {v : V} {u : Value} {pos : Pos} (hg : Gl X x) (hm : X.mg x = none) (hv : bootBuiltins x = some u) (r : RelV v u) (hn : x ≠ "__name__" := by decide) (hd : (x == ("__debug__" : Str)) = false := by decide) : PE X (.Name x pos) (tC v) :=
  fun _ _ _ H _ I h => ld_blt I hg hm hv ⟨v, H, I, r, h⟩ hn hd
variable {a b : Expr} {ta tb : TE} {pos : Pos}
noncomputable def tB (t : TE) : TT := fun σ H Q => t σ H fun x H1 => ∃ c, x = .bl c ∧ Q c H1
theorem pt_val {e : Expr} {t : TE} (h : PE X e t) (he : ∀ whole, isTrue e X.env whole = (do let v ← whole; standAt e.pos; holding [v] (truthy v)) := by intro _; rfl) : PT X e (tB t) := by
  intro pins s σ H Q I hw
  refine isTrue_plain (thn (h pins s σ H _ I hw) fun v s1 ⟨x, H1, I1, r1, q1⟩ => ?_) (he _)
  obtain ⟨d, rfl, q⟩ := q1
  cases r1
  exact wpAny_truthy_bool ⟨H1, I1, q⟩
variable {tA tB' : TT} {rest : List Expr}
noncomputable def tAnd (t u : TT) : TT := fun σ H Q => t σ H fun c H1 => if c = true then u σ H1 Q else Q false H1
noncomputable def tOr (t u : TT) : TT := fun σ H Q => t σ H fun c H1 => if c = true then Q true H1 else u σ H1 Q
noncomputable def tNot (t : TT) : TT := fun σ H Q => t σ H fun c H1 => Q (!c) H1
theorem pw_and1 (ha : PT X a tA) : PW X (.BoolOp .And [a] pos) tA := by
  intro wh pins s σ H Q I h
  refine isTrue_and (thn (ha pins s σ H Q I h) fun c s1 e => ?_)
  cases c with
  | true => exact isTrue_and_nil e
  | false => exact e
theorem pw_or1 (ha : PT X a tA) : PW X (.BoolOp .Or [a] pos) tA := by
  intro wh pins s σ H Q I h
  refine isTrue_or (thn (ha pins s σ H Q I h) fun c s1 e => ?_)
  cases c with
  | false => exact isTrue_or_nil e
  | true => exact e
theorem pw_and (ha : PT X a tA) (hb : PW X (.BoolOp .And (b :: rest) pos) tB') : PW X (.BoolOp .And (a :: b :: rest) pos) (tAnd tA tB') := by
  intro wh pins s σ H Q I h
  refine isTrue_and (thn (ha pins s σ H _ I h) fun c s1 ⟨H1, I1, q1⟩ => ?_)
  cases c with
  | true => exact hb wh pins s1 σ H1 Q I1 q1
  | false => exact ⟨H1, I1, q1⟩
theorem pw_or (ha : PT X a tA) (hb : PW X (.BoolOp .Or (b :: rest) pos) tB') : PW X (.BoolOp .Or (a :: b :: rest) pos) (tOr tA tB') := by
  intro wh pins s σ H Q I h
  refine isTrue_or (thn (ha pins s σ H _ I h) fun c s1 ⟨H1, I1, q1⟩ => ?_)
  cases c with
  | true => exact ⟨H1, I1, q1⟩
  | false => exact hb wh pins s1 σ H1 Q I1 q1
theorem pt_not (ha : PT X a tA) : PT X (.UnaryOp .Not a pos) (tNot tA) := by
  intro pins s σ H Q I h
  exact isTrue_not (ha pins s σ H (fun c H1 => Q (!c) H1) I h)
noncomputable def tAndV (ta tb : TE) : TE := fun σ H Q => ta σ H fun x H1 => ∃ c, x = .bl c ∧ if c = true then tb σ H1 Q else Q (.bl false) H1
noncomputable def tNotV (ta : TE) : TE := fun σ H Q => ta σ H fun x H1 => ∃ c, x = .bl c ∧ Q (.bl (!c)) H1
theorem pe_one {op} {t : TE} (h : PE X a t) : PE X (.BoolOp op [a] pos) t := fun pins s σ H Q I hw => BoolOp_one (h pins s σ H Q I hw)
theorem pe_and (ha : PE X a ta) (hb : PE X (.BoolOp .And (b :: rest) pos) tb) : PE X (.BoolOp .And (a :: b :: rest) pos) (tAndV ta tb) := by
  intro pins s σ H Q I h
  refine BoolOp_and (thn (ha pins s σ H _ I h) fun v s1 ⟨x, H1, I1, r1, q1⟩ => ?_)
  obtain ⟨c, rfl, q1⟩ := q1
  cases r1
  refine wpAny_truthy_bool ?_
  cases c with
  | true => exact hb pins s1 σ H1 Q I1 q1
  | false => exact ⟨.bl false, H1, I1, rfl, q1⟩
theorem pe_not (ha : PE X a ta) : PE X (.UnaryOp .Not a pos) (tNotV ta) := by
  intro pins s σ H Q I h
  refine UnaryOp_ (thn (ha pins s σ H _ I h) fun v s1 ⟨x, H1, I1, r1, q1⟩ => ?_)
  obtain ⟨c, rfl, q1⟩ := q1
  cases r1
  exact not_of (wpAny_truthy_bool ⟨.bl (!c), H1, I1, rfl, q1⟩)
end
end L2
namespace L2
open PySem PySem.Spec PyProof.Rows
noncomputable def SqL (K : PySem.W.Frag) (H : Hp) (a : Addr) (xs : List V) : Prop :=
  Rd H a (.lst xs) ∨
    ∃ (o : Obj) (its : Array Value) (n : Nat), K.lookup a = some o ∧ o.cls = .type "list" ∧ o.dict = none ∧ o.data = .seq its n ∧ its.size ≤ sizeLine ∧ Vals xs its.toList
noncomputable def SqT (K : PySem.W.Frag) (H : Hp) (a : Addr) (xs : List V) : Prop :=
  Rd H a (.tup xs) ∨
    ∃ (o : Obj) (its : Array Value) (n : Nat), K.lookup a = some o ∧ o.cls = .type "tuple" ∧ o.data = .seq its n ∧ its.size ≤ sizeLine ∧ Vals xs its.toList
noncomputable def absV : Value → Option V
  | .none => some .non
  | .bool b => some (.bl b)
  | .int i _ => some (.int i)
  | .str x _ => some (.str x)
  | .bytes b _ => some (.byt b)
  | .float b _ => some (.flt b)
  | .ref a => some (.ref a)
  | .type n => some (.ty n)
  | _ => none
theorem RelV.abs {x : V} {u : Value} (r : RelV x u) : absV u = some x := by
  cases x with
  | non => cases r; rfl
  | bl _ => cases r; rfl
  | int _ => obtain ⟨t, rfl⟩ := r; rfl
  | str _ => obtain ⟨t, rfl⟩ := r; rfl
  | byt _ => obtain ⟨t, rfl⟩ := r; rfl
  | flt _ => obtain ⟨t, rfl⟩ := r; rfl
  | ref _ => cases r; rfl
  | ty _ => cases r; rfl
theorem RelV.inj {x y : V} {u : Value} (r : RelV x u) (q : RelV y u) : x = y := Option.some.inj (r.abs.symm.trans q.abs)
theorem Vals.inj : ∀ {xs ys : List V} {us : List Value}, Vals xs us → Vals ys us → xs = ys
  | _, _, _, .nil, .nil => rfl
  | _, _, _, .cons r t, .cons r' t' => by rw [r.inj r', Vals.inj t t']
section
variable {X : Cx} {pins : List (Addr × Obj)} {σ : St} {H : Hp} {s : Shared} {a : Addr} {xs ys : List V}
theorem SqL.of {K : PySem.W.Frag} (h : H a = some (.lst xs)) : SqL K H a xs := .inl (.inl h)
theorem SqT.of {K : PySem.W.Frag} (h : H a = some (.tup xs)) : SqT K H a xs := .inl (.inl h)
theorem Inv.list (I : Inv X pins σ H s) (h : SqL X.K H a xs) : ∃ its : List Value, Vals xs its ∧ PlainL s.heap a its.toArray ∧ xs.length ≤ sizeLine := by
  rcases h with h | ⟨o, its, n, hk, hc, hd, hs, hz, r⟩
  · obtain ⟨z, its, n, r, e⟩ := h.ok I.hok
    exact ⟨its, r, ⟨_, n, e, rfl, rfl, rfl⟩, z⟩
  · refine ⟨its.toList, r, ⟨o, n, I.kIn a o hk, hc, hd, by simpa using hs⟩, ?_⟩
    have e := r.length
    simp only [Array.length_toList] at e
    omega
theorem Inv.tuple (I : Inv X pins σ H s) (h : SqT X.K H a xs) : ∃ its : List Value, Vals xs its ∧ IsTup s.heap a its.toArray ∧ xs.length ≤ sizeLine := by
  rcases h with h | ⟨o, its, n, hk, hc, hs, hz, r⟩
  · obtain ⟨z, its, r, p⟩ := h.ok I.hok
    exact ⟨its, r, p, z⟩
  · refine ⟨its.toList, r, ⟨o, I.kIn a o hk, hc, n, by simpa using hs⟩, ?_⟩
    have e := r.length
    simp only [Array.length_toList] at e
    omega
theorem Inv.list_inj (I : Inv X pins σ H s) (h : SqL X.K H a xs) (h' : SqL X.K H a ys) : xs = ys := by
  obtain ⟨its, r, ⟨o, n, e, _, _, d⟩, _⟩ := I.list h
  obtain ⟨its', r', ⟨o', n', e', _, _, d'⟩, _⟩ := I.list h'
  rw [e] at e'; cases e'
  rw [d] at d'
  injection d' with d1 _
  have : its = its' := by simpa using congrArg Array.toList d1
  subst this
  exact r.inj r'
theorem Inv.tuple_inj (I : Inv X pins σ H s) (h : SqT X.K H a xs) (h' : SqT X.K H a ys) : xs = ys := by
  obtain ⟨its, r, ⟨o, e, _, n, d⟩, _⟩ := I.tuple h
  obtain ⟨its', r', ⟨o', e', _, n', d'⟩, _⟩ := I.tuple h'
  rw [e] at e'; cases e'
  rw [d] at d'
  injection d' with d1 _
  have : its = its' := by simpa using congrArg Array.toList d1
  subst this
  exact r.inj r'
end
noncomputable abbrev Cx.wish (X : Cx) (E : Value → Shared → Prop) : Cx := { X with xe := E }
noncomputable abbrev Cx.nox (X : Cx) : Cx := X.wish fun _ _ => False
theorem Cx.Ok.wish {X : Cx} (ok : X.Ok) (E : Value → Shared → Prop) : (X.wish E).Ok :=
  ⟨ok.mod, ok.kind, ok.glob, ok.blt, ok.above, ok.inj, ok.has, ok.cab, ok.hd, ok.frames, ok.stk, ok.exf, ok.bs, ok.bsz, ok.noex, ok.exfs, ok.funs, ok.frf⟩
theorem Cx.Ok.unwish {X : Cx} {E : Value → Shared → Prop} (ok : (X.wish E).Ok) : X.Ok :=
  ⟨ok.mod, ok.kind, ok.glob, ok.blt, ok.above, ok.inj, ok.has, ok.cab, ok.hd, ok.frames, ok.stk, ok.exf, ok.bs, ok.bsz, ok.noex, ok.exfs, ok.funs, ok.frf⟩
section
variable {X : Cx} {pins : List (Addr × Obj)} {σ : St} {H : Hp} {s : Shared} {E : Value → Shared → Prop}
theorem Inv.wish (I : Inv X pins σ H s) (E : Value → Shared → Prop) : Inv (X.wish E) pins σ H s := ⟨I.ok.wish E, I.os, I.bare, I.base, I.loc, I.cell, I.free, I.freeC, I.pin, I.hok, I.len⟩
theorem Inv.unwish (I : Inv (X.wish E) pins σ H s) : Inv X pins σ H s := ⟨I.ok.unwish, I.os, I.bare, I.base, I.loc, I.cell, I.free, I.freeC, I.pin, I.hok, I.len⟩
theorem SP.unwish {D : Ends} {f : Flow} {s' : Shared} (h : SP (X.wish E) pins D f s') : SP X pins D f s' := by
  cases f with
  | next => obtain ⟨σ', H', I, q⟩ := h; exact ⟨σ', H', I.unwish, q⟩
  | brk => obtain ⟨σ', H', I, q⟩ := h; exact ⟨σ', H', I.unwish, q⟩
  | cont => obtain ⟨σ', H', I, q⟩ := h; exact ⟨σ', H', I.unwish, q⟩
  | ret u => obtain ⟨v, σ', H', I, r, q⟩ := h; exact ⟨v, σ', H', I.unwish, r, q⟩
theorem PE.nox {e : Expr} {t : TE} (h : PE X.nox e t) : PE X e t := fun pins s σ H Q I hw =>
  wpAny_mono (h pins s σ H Q (I.wish _) hw) (fun _ _ ⟨v, H', I', r, q⟩ => ⟨v, H', I'.unwish, r, q⟩) fun _ _ z => False.elim z
theorem PT.nox {e : Expr} {t : TT} (h : PT X.nox e t) : PT X e t := fun pins s σ H Q I hw =>
  wpAny_mono (h pins s σ H Q (I.wish _) hw) (fun _ _ ⟨H', I', q⟩ => ⟨H', I'.unwish, q⟩) fun _ _ z => False.elim z
theorem PSs.nox {st : List Stmt} {t : TS} (h : PSs X.nox st t) : PSs X st t := fun pins s σ H D I hw =>
  wpAny_mono (h pins s σ H D (I.wish _) hw) (fun _ _ q => q.unwish) fun _ _ z => False.elim z
end
section
variable {X : Cx} {st : Stmt} {rest : List Stmt} {t u : TS} {e : Expr} {te : TE} {pos : Pos}
noncomputable def tNext : TS := fun D σ H => D.nx σ H
noncomputable def tSeq (t u : TS) : TS := fun D σ H => t { D with nx := u D } σ H
theorem pss_nil : PSs X [] tNext := fun _ _ σ H _ I h => wpAny_execs_nil ⟨σ, H, I, h⟩
theorem pss_cons (h1 : PS X st t) (h2 : PSs X rest u) : PSs X (st :: rest) (tSeq t u) := by
  intro pins s σ H D I h
  refine wpAny_execs_cons (thn (h1 pins s σ H { D with nx := u D } I h) fun f s1 q => ?_)
  cases f with
  | next =>
    obtain ⟨σ', H', I', q⟩ := q
    exact h2 pins s1 σ' H' D I' q
  | ret v => exact q
  | brk => exact q
  | cont => exact q
theorem pss_one (h1 : PS X st t) : PSs X [st] t := by
  intro pins s σ H D I h
  refine wpAny_execs_cons (thn (h1 pins s σ H D I h) fun f s1 q => ?_)
  cases f with
  | next => exact wpAny_execs_nil q
  | ret v => exact q
  | brk => exact q
  | cont => exact q
theorem Inv.quiet {pins : List (Addr × Obj)} {σ : St} {H : Hp} {s : Shared} (I : Inv X pins σ H s) : interactive X.env = false := by simp [interactive, I.ok.kind]
noncomputable def tDrop (te : TE) : TS := fun D σ H => te σ H fun _ H1 => D.nx σ H1
theorem ps_expr (he : PE X e te) (hs : swapsWith e none pos.line X.env = pure false := by rfl) : PS X (.Expr e pos) (tDrop te) := by
  intro pins s σ H D I h
  exact wpAny_Expr_any (thn (he pins s σ H _ I h) fun v s1 ⟨x, H1, I1, r1, q1⟩ => ⟨σ, H1, I1, q1⟩) I.quiet hs
noncomputable def tRet (te : TE) : TS := fun D σ H => te σ H D.rt
theorem ps_ret (he : PE X e te) : PS X (.Return (some e) pos) (tRet te) := by
  intro pins s σ H D I h
  exact wpAny_Return_some (thn (he pins s σ H _ I h) fun v s1 ⟨x, H1, I1, r1, q1⟩ => ⟨x, σ, H1, I1, r1, q1⟩)
noncomputable def tIfS (c : TT) (t u : TS) : TS := fun D σ H => c σ H fun b H1 => if b = true then t D σ H1 else u D σ H1
theorem ps_if {c : Expr} {a b : List Stmt} {tc : TT} (hc : PT X c tc) (ha : PSs X a t) (hb : PSs X b u) : PS X (.If c a b pos) (tIfS tc t u) := by
  intro pins s σ H D I h
  refine wpAny_If (thn (hc pins s σ H _ I h) fun d s1 ⟨H1, I1, q1⟩ => ?_)
  cases d with
  | true => exact ha pins s1 σ H1 D I1 q1
  | false => exact hb pins s1 σ H1 D I1 q1
end
noncomputable abbrev TG := V → St → Hp → (St → Hp → Prop) → Prop
noncomputable def PG (X : Cx) (target : Expr) (t : TG) : Prop :=
  ∀ (pins : List (Addr × Obj)) (s : Shared) (σ : St) (H : Hp) (v : V) (u : Value) (Q : St → Hp → Prop), Inv X pins σ H s → RelV v u → t v σ H Q →
    wpAny (model X.prog X.w) X.A (assign target X.env u) (fun _ s' => ∃ σ' H', Inv X pins σ' H' s' ∧ Q σ' H') X.xe s
noncomputable abbrev TSet := V → V → V → Hp → (Hp → Prop) → Prop
noncomputable def PSet (X : Cx) (t : TSet) : Prop :=
  ∀ (pins : List (Addr × Obj)) (s : Shared) (σ : St) (H : Hp) (o i v : V) (ov iv u : Value) (Q : Hp → Prop), Inv X pins σ H s → RelV o ov → RelV i iv → RelV v u → t o i v H Q →
    wpAny (model X.prog X.w) X.A (setItem ov iv u) (fun _ s' => ∃ H', Inv X pins σ H' s' ∧ Q H') X.xe s
section
variable {X : Cx} {pos : Pos}
noncomputable def gName (i : Nat) : TG := fun v σ H Q => Q (σ.set i (some v)) H
theorem pg_name {i : Nat} {x : Str} (hN : X.N.Nodup) (hi : X.N[i]? = some x) (hx : Loc X.env.scope x) (hf : X.fn x = true ∨ X.env.scope.names.lookup x = some .local := by first | exact .inl rfl | exact .inr rfl | assumption) : PG X (.Name x pos) (gName i) := by
  intro pins s σ H v u Q I r h
  exact wpAny_assign_Name (store_ok I hN hi hx r (fun s' I' => ⟨_, H, I', h⟩) hf)
noncomputable def gSub (to ti : TE) (t : TSet) : TG := fun v σ H Q => to σ H fun o H1 => ti σ H1 fun i H2 => t o i v H2 fun H3 => Q σ H3
theorem pg_sub {o i : Expr} {to ti : TE} {t : TSet} (ho : PE X o to) (hi : PE X i ti) (hs : PSet X t)
    (ha : ∀ v, assign (.Subscript o i pos) X.env v = (do
      let ov ← holding [v] (eval o X.env)
      let iv ← holding [v, ov] (eval i X.env)
      standAt pos
      holding [v, ov, iv] (setItem ov iv v)
      release [v, ov, iv] []) := by intro _; rfl) : PG X (.Subscript o i pos) (gSub to ti t) := by
  intro pins s σ H v u Q I r h
  rw [ha]
  refine wpAny_bind (wpAny_holding (thn (ho pins s σ H _ I h) fun ov s1 ⟨x, H1, I1, r1, q1⟩ => ?_))
  refine wpAny_bind (wpAny_holding (thn (hi pins s1 σ H1 _ I1 q1) fun iv s2 ⟨y, H2, I2, r2, q2⟩ => ?_))
  refine wpAny_bind (wpAny_standAt (wpAny_bind (wpAny_holding (thn (hs pins s2 σ H2 x y v ov iv u _ I2 r1 r2 r q2) fun _ s3 ⟨H3, I3, q3⟩ => ?_))))
  exact wpAny_release ⟨σ, H3, I3, q3⟩
noncomputable def tAsg (te : TE) (g : TG) : TS := fun D σ H => te σ H fun x H1 => g x σ H1 D.nx
theorem ps_asg {tg e : Expr} {te : TE} {g : TG} (he : PE X e te) (hg : PG X tg g) (hs : swapsWithSole [tg] e pos.line X.env = pure false := by rfl) (hw : swappedStores [tg] e X.env = pure none := by rfl)
    (h1 : (assignEach [tg] X.env).map (·.2) = [assign tg X.env] := by rfl) : PS X (.Assign [tg] e pos) (tAsg te g) := by
  intro pins s σ H D I h
  refine wpAny_Assign_stores (thn (he pins s σ H _ I h) fun v s1 ⟨x, H1, I1, r1, q1⟩ => ?_) hs hw
  rw [h1]
  exact thn (hg pins s1 σ H1 x v _ I1 r1 q1) fun _ s2 q => q
theorem ps_set {i : Nat} {x : Str} {e : Expr} {te : TE} {pos' : Pos} (hN : X.N.Nodup) (hi : X.N[i]? = some x) (hx : Loc X.env.scope x) (he : PE X e te) (hs : swapsWith e (some (.Name x pos')) pos.line X.env = pure false := by rfl) (hf : X.fn x = true ∨ X.env.scope.names.lookup x = some .local := by first | exact .inl rfl | exact .inr rfl | assumption) :
    PS X (.Assign [.Name x pos'] e pos) (tAsg te (gName i)) := by
  intro pins s σ H D I h
  refine wpAny_Assign_Name (thn (he pins s σ H _ I h) fun v s1 ⟨y, H1, I1, r1, q1⟩ => ?_) hs
  exact store_ok I1 hN hi hx r1 (fun s2 I2 => ⟨_, H1, I2, q1⟩) hf
end
section
variable {X : Cx} {pos : Pos}
end
structure It where
  go : Nat → Hp → Prop
  yld : Nat → Hp → V → Hp → Prop
  stop : Nat → Hp → Prop
noncomputable def FpOk (X : Cx) (pins : List (Addr × Obj)) (H : Hp) (b : Addr) : Prop :=
  H b = none ∧ b ≠ X.env.locals ∧ b ∉ X.fs ∧ (b ∈ X.ex ∨ X.s₀.heap.objs.size ≤ b) ∧ (∀ x c, X.env.cells.lookup x = some c → c ≠ b) ∧ ∀ p ∈ X.pn ++ pins, p.1 ≠ b
theorem Inv.fpOk {X : Cx} {pins : List (Addr × Obj)} {σ : St} {H H' : Hp} {s : Shared} {b : Addr} (I : Inv X pins σ H s) (hb : s.heap.objs.size ≤ b) (hn : H' b = none) : FpOk X pins H' b := by
  refine ⟨hn, Nat.ne_of_gt (Nat.lt_of_lt_of_le I.lt hb), I.nofs hb, .inr (Nat.le_trans I.sz hb), fun x c e z => ?_, fun p hp z => ?_⟩
  · obtain ⟨v, q⟩ := I.cell x c e
    exact absurd (Nat.lt_of_lt_of_le q.lt (by rw [z]; exact hb)) (Nat.lt_irrefl _)
  · exact absurd (Nat.lt_of_lt_of_le (Heap.lt_size (I.pin p hp).1) (by rw [z]; exact hb)) (Nat.lt_irrefl _)
structure Turn (P : Program) (w : World) (K : PySem.W.Frag) (tg : Expr) (J : It) (fp : List Addr) (it : Addr) (tn : Nat → Heap → Prop) : Prop where
  mem : it ∈ fp
  obj : ∀ i h, tn i h → ∀ b ∈ fp, ∃ o, h.get? b = some o ∧ ∀ v, o.data ≠ .cell v
  keep : ∀ i h h', tn i h → (∀ b ∈ fp, ∀ o, h.get? b = some o → h'.get? b = some o) → tn i h'
  item : ∀ (X : Cx), X.prog = P → X.w = w → X.K = K → X.calm = true → ∀ (i : Nat) (pins : List (Addr × Obj)) (s : Shared) (σ : St) (H : Hp) (E : Value → Shared → Prop), Inv X pins σ H s → (∀ b ∈ fp, FpOk X pins H b) → tn i s.heap → J.go i H →
    wpAny (model P w) X.A (pyNext (.ref it)) (fun r s1 => ∃ u, r = some u ∧
      wpAny (model P w) X.A (letOwnedTupleGo tg (.ref it) u) (fun _ s2 => ∃ x H', Inv X pins σ H' s2 ∧ RelV x u ∧ J.yld i H x H' ∧ tn (i + 1) s2.heap ∧ ∀ b ∈ fp, H' b = none) E s1) E s
  done : ∀ (X : Cx), X.prog = P → X.w = w → X.K = K → X.calm = true → ∀ (i : Nat) (pins : List (Addr × Obj)) (s : Shared) (σ : St) (H : Hp) (E : Value → Shared → Prop), Inv X pins σ H s → (∀ b ∈ fp, FpOk X pins H b) → tn i s.heap → J.stop i H →
    wpAny (model P w) X.A (pyNext (.ref it)) (fun r s1 => r = none ∧ Inv X pins σ H s1) E s
  self : ∀ (A : Around) (i : Nat) (s : Shared) (Q : Value → Shared → Prop) (E : Value → Shared → Prop), tn i s.heap → Q (.ref it) s → wpAny (model P w) A (pyIter (.ref it)) Q E s
noncomputable abbrev TI := St → Hp → (It → Hp → Prop) → Prop
noncomputable def PIE (X : Cx) (pins : List (Addr × Obj)) (σ : St) (tg : Expr) (R : It → Hp → Prop) (itv : Value) (s2 : Shared) : Prop :=
  ∃ (it : Addr) (fp : List Addr) (tn : Nat → Heap → Prop) (J : It) (H' : Hp), itv = .ref it ∧ Inv X pins σ H' s2 ∧ Turn X.prog X.w X.K tg J fp it tn ∧ tn 0 s2.heap ∧ (∀ b ∈ fp, FpOk X pins H' b) ∧ R J H'
noncomputable def PI (X : Cx) (tg iter : Expr) (wi : TI) : Prop :=
  ∀ (pins : List (Addr × Obj)) (s : Shared) (σ : St) (H : Hp) (R : It → Hp → Prop), Inv X pins σ H s → wi σ H R →
    wpAny (model X.prog X.w) X.A (eval iter X.env) (fun v s1 => wpAny (model X.prog X.w) X.A (pyIter v) (PIE X pins σ tg R) X.xe s1) X.xe s
theorem go_of {M : Model} {A : Around} {E : Value → Shared → Prop} {s : Shared} {tg : Expr} {it : Addr} {u : Value} {o : Obj} {n : String} {vs : Array Value} {Q : Unit → Shared → Prop} (ho : s.heap.get? it = some o) (hc : o.cls = .type n) (hd : o.data = .fields vs)
    (hn : ["enumerate", "zip", "dict_itemiterator", "dict_reverseitemiterator", "odict_iterator", "itertools.zip_longest", "itertools.pairwise"].contains n = false) (hQ : Q () s) : wpAny M A (letOwnedTupleGo tg (.ref it) u) Q E s := by
  unfold letOwnedTupleGo
  cases tg <;> first
    | exact wpAny_pure hQ
    | (cases u <;> first
        | exact wpAny_pure hQ
        | (refine wpAny_bind (wpAny_load ho ?_)
           rw [hc, hd]
           show wpAny M A (if (["enumerate", "zip", "dict_itemiterator", "dict_reverseitemiterator", "odict_iterator", "itertools.zip_longest", "itertools.pairwise"].contains n && vs[0]? == some (rawInt _)) = true then _ else _) Q E s
           rw [if_neg (by intro h; rw [hn, Bool.false_and] at h; cases h)]
           exact wpAny_pure hQ))
noncomputable def Itl (K : PySem.W.Frag) (a : Addr) : It :=
  ⟨fun i H => ∃ xs x, SqL K H a xs ∧ xs[i]? = some x, fun i H x H' => H' = H ∧ ∀ xs, SqL K H a xs → xs[i]? = some x, fun i H => ∃ xs, SqL K H a xs ∧ xs.length ≤ i⟩
noncomputable def Itt (K : PySem.W.Frag) (a : Addr) : It :=
  ⟨fun i H => ∃ xs x, SqT K H a xs ∧ xs[i]? = some x, fun i H x H' => H' = H ∧ ∀ xs, SqT K H a xs → xs[i]? = some x, fun i H => ∃ xs, SqT K H a xs ∧ xs.length ≤ i⟩
noncomputable def Itr (lo : Int) (n : Nat) : It := ⟨fun i _ => i < n, fun i H x H' => H' = H ∧ x = .int (lo + i), fun i _ => n ≤ i⟩
theorem turn_list {P : Program} {w : World} {K : PySem.W.Frag} {tg : Expr} (a it : Addr) : Turn P w K tg (Itl K a) [it] it (fun i h => h.IsListIter it a i) where
  mem := by simp
  obj := fun i h st b hb => by
    have e : b = it := by simpa using hb
    subst e
    obtain ⟨o, e, c, d⟩ := st
    exact ⟨o, e, fun v z => by rw [d] at z; cases z⟩
  keep := fun i h h' st k => st.at fun o e => k it (by simp) o e
  item := by
    intro X hP hw hK hc i pins s σ H E I hf st hg
    subst hP hw hK
    obtain ⟨xs, x, hq, hx⟩ := hg
    obtain ⟨its, rv, p, hz⟩ := I.list hq
    obtain ⟨u, hu, ru⟩ := rv.get hx
    obtain ⟨f0, f1, f2, f3, f4, f5⟩ := hf it (by simp)
    refine wpAny_pyNext_list_item st p.isList (x := u) (by simpa using hu) fun h' st' sb => ?_
    have I1 : Inv X pins σ H { s with heap := h' } := I.turned (t' := s.toks) (fun b o hb e => (sb.2 b hb).trans e) f0 f1 f3 f4 f5
    obtain ⟨o, e, c, d⟩ := id st'
    exact ⟨u, rfl, go_of (s := { s with heap := h' }) e c d (by decide) ⟨x, H, I1, ru, ⟨rfl, fun ys hy => by rw [I.list_inj hy hq]; exact hx⟩, st', fun b hb => (hf b hb).1⟩⟩
  done := by
    intro X hP hw hK hc i pins s σ H E I hf st hg
    subst hP hw hK
    obtain ⟨xs, hq, hx⟩ := hg
    obtain ⟨its, rv, p, hz⟩ := I.list hq
    obtain ⟨f0, f1, f2, f3, f4, f5⟩ := hf it (by simp)
    have hl := rv.length
    exact wpAny_pyNext_list_end (I.ok.hd hc) st p.isList (by simp; omega) fun h' eb => ⟨rfl, I.turned (t' := s.toks) (fun b o hb e => eb b o hb e) f0 f1 f3 f4 f5⟩
  self := fun _ _ _ _ _ st h => wpAny_pyIter_listiter st h
theorem turn_tuple {P : Program} {w : World} {K : PySem.W.Frag} {tg : Expr} (a it : Addr) : Turn P w K tg (Itt K a) [it] it (fun i h => h.IsTupleIter it a i) where
  mem := by simp
  obj := fun i h st b hb => by
    have e : b = it := by simpa using hb
    subst e
    obtain ⟨o, e, c, d⟩ := st
    exact ⟨o, e, fun v z => by rw [d] at z; cases z⟩
  keep := fun i h h' st k => st.at fun o e => k it (by simp) o e
  item := by
    intro X hP hw hK hc i pins s σ H E I hf st hg
    subst hP hw hK
    obtain ⟨xs, x, hq, hx⟩ := hg
    obtain ⟨its, rv, p, hz⟩ := I.tuple hq
    obtain ⟨u, hu, ru⟩ := rv.get hx
    obtain ⟨f0, f1, f2, f3, f4, f5⟩ := hf it (by simp)
    refine wpAny_pyNext_tuple_item st (show s.heap.IsTuple a its.toArray from p) (x := u) (by simpa using hu) fun h' st' sb => ?_
    have I1 : Inv X pins σ H { s with heap := h' } := I.turned (t' := s.toks) (fun b o hb e => (sb.2 b hb).trans e) f0 f1 f3 f4 f5
    obtain ⟨o, e, c, d⟩ := id st'
    exact ⟨u, rfl, go_of (s := { s with heap := h' }) e c d (by decide) ⟨x, H, I1, ru, ⟨rfl, fun ys hy => by rw [I.tuple_inj hy hq]; exact hx⟩, st', fun b hb => (hf b hb).1⟩⟩
  done := by
    intro X hP hw hK hc i pins s σ H E I hf st hg
    subst hP hw hK
    obtain ⟨xs, hq, hx⟩ := hg
    obtain ⟨its, rv, p, hz⟩ := I.tuple hq
    obtain ⟨f0, f1, f2, f3, f4, f5⟩ := hf it (by simp)
    have hl := rv.length
    exact wpAny_pyNext_tuple_end (I.ok.hd hc) st (show s.heap.IsTuple a its.toArray from p) (by simp; omega) fun h' eb => ⟨rfl, I.turned (t' := s.toks) (fun b o hb e => eb b o hb e) f0 f1 f3 f4 f5⟩
  self := fun _ _ _ _ _ st h => wpAny_pyIter_tupleiter st h
theorem turn_range {P : Program} {w : World} {K : PySem.W.Frag} {tg : Expr} (it : Addr) (lo : Int) (n : Nat) : Turn P w K tg (Itr lo n) [it] it (fun i h => IsRangeIter h it (lo + (i : Nat) * 1) ((n : Int) - (i : Nat)) 1) where
  mem := by simp
  obj := fun i h st b hb => by
    have e : b = it := by simpa using hb
    subst e
    exact ⟨_, st, fun v z => by
      have z' : Data.fields _ = Data.cell v := z
      cases z'⟩
  keep := fun i h h' st k => k it (by simp) _ st
  item := by
    intro X hP hw hK hc i pins s σ H E I hf st hg
    subst hP hw hK
    obtain ⟨f0, f1, f2, f3, f4, f5⟩ := hf it (by simp)
    have W := Walks.range (prog := X.prog) (w := X.w) (I.ok.hd hc) it lo 1 n
    refine W.item i s _ _ hg st fun v h' tk hv st' kk => ?_
    obtain ⟨t, rfl⟩ := hv
    have I1 : Inv X pins σ H { s with heap := h', toks := tk } := I.turned (fun b o hb e => kk b o (by simpa using hb) e) f0 f1 f3 f4 f5
    refine ⟨_, rfl, go_of (s := { s with heap := h', toks := tk }) (n := "range_iterator") st' rfl rfl (by decide) ⟨.int (lo + i), H, I1, ⟨t, ?_⟩, ⟨rfl, rfl⟩, st', fun b hb => (hf b hb).1⟩⟩
    rw [Int.mul_one]
  done := by
    intro X hP hw hK hc i pins s σ H E I hf st hg
    subst hP hw hK
    obtain ⟨f0, f1, f2, f3, f4, f5⟩ := hf it (by simp)
    exact wpAny_pyNext_range_end (I.ok.hd hc) st (by have : n ≤ i := hg; omega) fun h' eb => ⟨rfl, I.turned (t' := s.toks) (fun b o hb e => eb b o hb e) f0 f1 f3 f4 f5⟩
  self := fun _ _ _ _ _ st h => wpAny_pyIter_rangeiter st h
end L2
namespace L2
open PySem PySem.Spec PyProof.Rows
section
variable {X : Cx} {tg : Expr}
noncomputable def iList (K : PySem.W.Frag) (tl : TE) : TI := fun σ H R => tl σ H fun x H1 => ∃ a, x = .ref a ∧ (∃ xs, SqL K H1 a xs) ∧ R (Itl K a) H1
noncomputable def iTup (K : PySem.W.Frag) (tl : TE) : TI := fun σ H R => tl σ H fun x H1 => ∃ a, x = .ref a ∧ (∃ xs, SqT K H1 a xs) ∧ R (Itt K a) H1
theorem pi_list {l : Expr} {tl : TE} (hl : PE X l tl) : PI X tg l (iList X.K tl) := by
  intro pins s σ H R I h
  refine thn (hl pins s σ H _ I h) fun v s1 ⟨x, H1, I1, r1, q1⟩ => ?_
  obtain ⟨a, e, ⟨xs, hq⟩, q⟩ := q1
  subst e
  cases r1
  obtain ⟨its, rv, p, hz⟩ := I1.list hq
  refine wpAny_pyIter_list p.isList ?_
  refine ⟨s1.heap.objs.size, [s1.heap.objs.size], _, _, H1, rfl, I1.kept (t' := s1.toks) fun b o e => Heap.get?_push_of_some _ e, turn_list a _, ⟨_, Heap.get?_push_size _ rfl, rfl, rfl⟩, fun b hb => ?_, q⟩
  have e : b = s1.heap.objs.size := by simpa using hb
  subst e
  exact I1.fpOk (Nat.le_refl _) (I1.hok.fresh (Nat.le_refl _))
theorem pi_tup {l : Expr} {tl : TE} (hl : PE X l tl) : PI X tg l (iTup X.K tl) := by
  intro pins s σ H R I h
  refine thn (hl pins s σ H _ I h) fun v s1 ⟨x, H1, I1, r1, q1⟩ => ?_
  obtain ⟨a, e, ⟨xs, hq⟩, q⟩ := q1
  subst e
  cases r1
  obtain ⟨its, rv, p, hz⟩ := I1.tuple hq
  refine wpAny_pyIter_tuple (show s1.heap.IsTuple a its.toArray from p) ?_
  refine ⟨s1.heap.objs.size, [s1.heap.objs.size], _, _, H1, rfl, I1.kept (t' := s1.toks) fun b o e => Heap.get?_push_of_some _ e, turn_tuple a _, ⟨_, Heap.get?_push_size _ rfl, rfl, rfl⟩, fun b hb => ?_, q⟩
  have e : b = s1.heap.objs.size := by simpa using hb
  subst e
  exact I1.fpOk (Nat.le_refl _) (I1.hok.fresh (Nat.le_refl _))
theorem range_it {pins : List (Addr × Obj)} {σ : St} {H : Hp} {s : Shared} {R : It → Hp → Prop} {E : Value → Shared → Prop} {lo hi : Int} {t u v : Tok} {tk : Nat} (I : Inv X pins σ H s) (h1 : -(2 ^ 62) ≤ lo) (h2 : lo < 2 ^ 62) (h3 : -(2 ^ 62) ≤ hi) (h4 : hi < 2 ^ 62)
    (q : R (Itr lo (hi - lo).toNat) H) : wpAny (model X.prog X.w) X.A (pyIter (.ref s.heap.objs.size)) (PIE X pins σ tg R) E { s with heap := s.heap.push { cls := .type "range", data := .fields #[.int lo t, .int hi u, .int 1 v] }, toks := tk } := by
  refine wpAny_pyIter_range (IsRange.new ..) (small_one h1 h2 h3 h4) ?_
  have I1 : Inv X pins σ H { s with heap := s.heap.push { cls := .type "range", data := .fields #[.int lo t, .int hi u, .int 1 v] }, toks := tk } := I.kept fun b o e => Heap.get?_push_of_some _ e
  refine ⟨(s.heap.push { cls := .type "range", data := .fields #[.int lo t, .int hi u, .int 1 v] }).objs.size, [(s.heap.push { cls := .type "range", data := .fields #[.int lo t, .int hi u, .int 1 v] }).objs.size], _, _, H, rfl,
    I1.kept (t' := tk) fun b o e => Heap.get?_push_of_some _ e, turn_range _ lo (hi - lo).toNat, ?_, fun b hb => ?_, q⟩
  · have e1 : lo + ((0 : Nat) : Int) * 1 = lo := by simp
    have e2 : (((hi - lo).toNat : Nat) : Int) - ((0 : Nat) : Int) = Builtin.Range.rangeSize lo hi 1 := by rw [rangeSize_one]; split <;> omega
    show IsRangeIter _ _ (lo + ((0 : Nat) : Int) * 1) ((((hi - lo).toNat : Nat) : Int) - ((0 : Nat) : Int)) 1
    rw [e1, e2]
    exact Heap.get?_push_size _ rfl
  · have e : b = (s.heap.push { cls := .type "range", data := .fields #[.int lo t, .int hi u, .int 1 v] }).objs.size := by simpa using hb
    subst e
    exact I1.fpOk (Nat.le_refl _) (I1.hok.fresh (Nat.le_refl _))
noncomputable def iRng1 (ta : TA) : TI := fun σ H R => ta σ H fun vs H1 => ∃ j : Int, vs = [.int j] ∧ -(2 ^ 62) ≤ j ∧ j < 2 ^ 62 ∧ R (Itr 0 j.toNat) H1
theorem pi_range1 {a : Expr} {ta : TA} {p pos : Pos} (hg : Gl X "range") (hm : X.mg "range" = none) (ha : PA X [a] ta) (hs : starEach [a] X.env = [(false, eval a X.env)] := by rfl) : PI X tg (.Call (.Name "range" p) [a] [] pos) (iRng1 ta) := by
  intro pins s σ H R I h
  refine Call_ (ld_blt I hg hm boot_range (PyProof.Rows.callWith_type1 (thn (ha pos pins s σ H _ I h) fun us s1 ⟨vs, H1, I1, r1, q1⟩ => ?_) hs rfl))
  obtain ⟨j, e, q1, q2, q⟩ := q1
  subst e
  cases r1 with
  | cons r rr =>
    cases rr
    obtain ⟨t, rfl⟩ := r
    exact call_range_1 (range_it I1 (by omega) (by omega) q1 q2 (by simpa using q))
noncomputable def tFor (wi : TI) (g : TG) (tb : TS) : TS := fun D σ H => wi σ H fun J H1 => ∃ W : Nat → Nat → St → Hp → Prop, (∃ m, W 0 m σ H1) ∧ ∀ i m σ H, W i m σ H →
  (J.stop i H ∧ D.nx σ H) ∨ (J.go i H ∧ ∃ N : St → Hp → Prop, (∀ σ' H', N σ' H' → ∃ m', m' < m ∧ W (i + 1) m' σ' H') ∧ ∀ x H', J.yld i H x H' → g x σ H' fun σ2 H2 => tb { D with nx := N, ct := N, bk := D.nx } σ2 H2)
noncomputable def pinsAt (fp : List Addr) (h : Heap) : List (Addr × Obj) := fp.filterMap fun b => (h.get? b).map fun o => (b, o)
theorem mem_pinsAt {fp : List Addr} {h : Heap} {b : Addr} {o : Obj} (hb : b ∈ fp) (e : h.get? b = some o) : (b, o) ∈ pinsAt fp h := List.mem_filterMap.mpr ⟨b, hb, by rw [e]; rfl⟩
theorem of_pinsAt {fp : List Addr} {h : Heap} {p : Addr × Obj} (hp : p ∈ pinsAt fp h) : p.1 ∈ fp ∧ h.get? p.1 = some p.2 := by
  obtain ⟨b, hb, e⟩ := List.mem_filterMap.mp hp
  cases q : h.get? b with
  | none => rw [q] at e; cases e
  | some o =>
    rw [q] at e
    have e' : (b, o) = p := Option.some.inj e
    subst e'
    exact ⟨hb, q⟩
theorem Inv.pinned {pins : List (Addr × Obj)} {σ : St} {H : Hp} {s : Shared} {fp : List Addr} (I : Inv X pins σ H s) (hf : ∀ b ∈ fp, FpOk X pins H b) (ho : ∀ b ∈ fp, ∃ o, s.heap.get? b = some o ∧ ∀ v, o.data ≠ .cell v) : Inv X (pins ++ pinsAt fp s.heap) σ H s :=
  I.pins_of fun p hp => (List.mem_append.mp hp).elim (fun z => I.pin p (List.mem_append_right _ z)) fun z => by
    obtain ⟨hb, e⟩ := of_pinsAt z
    obtain ⟨f0, f1, f2, _⟩ := hf p.1 hb
    obtain ⟨o, e', d⟩ := ho p.1 hb
    rw [e] at e'; cases e'
    exact ⟨e, f0, f1, f2, d⟩
theorem Inv.unpinned {pins pl : List (Addr × Obj)} {σ : St} {H : Hp} {s : Shared} (I : Inv X (pins ++ pl) σ H s) : Inv X pins σ H s := I.pins_of fun p hp => I.pin p (List.mem_append_right _ (List.mem_append_left _ hp))
theorem ps_for {iter : Expr} {body : List Stmt} {wi : TI} {g : TG} {tb : TS} {pos : Pos} (hp : PassesOwn (model X.prog X.w) X.A X.env X.xe) (hc : X.calm = true) (hi : PI X tg iter wi) (hg : PG X tg g) (hb : PSs X body tb)
    (hs : ∀ x, foldedSetIterable iter X.env x = pure x := by intro _; rfl) : PS X (.For tg iter body [] pos) (tFor wi g tb) := by
  intro pins s σ H D I h
  refine wpAny_For (thn (hi pins s σ H _ I h) fun v s1 h1 => thn h1 fun itv s2 h2 => ?_) hs
  obtain ⟨it, fp, tn, J, H2, e, I2, T, st2, f2, W, ⟨m0, w0⟩, turn⟩ := h2
  subst e
  have stat : ∀ {H' : Hp}, (∀ b ∈ fp, H' b = none) → ∀ b ∈ fp, FpOk X pins H' b := fun hn b hb => ⟨hn b hb, (f2 b hb).2⟩
  refine codeAny_forLoop_any (fun n s' => ∃ i σ' H', Inv X pins σ' H' s' ∧ tn i s'.heap ∧ (∀ b ∈ fp, H' b = none) ∧ W i n σ' H') ?_ m0 ⟨0, σ, H2, I2, st2, fun b hb => (f2 b hb).1, w0⟩
  rintro n s3 ⟨i, σ3, H3, I3, st3, fr3, w3⟩
  rcases turn i n σ3 H3 w3 with ⟨stop, qn⟩ | ⟨go, N, hN, step⟩
  · refine wpAny_passesOwn hp (thn (T.done X rfl rfl rfl hc i pins s3 σ3 H3 X.xe I3 (stat fr3) st3 stop) fun r s4 ⟨hr, I4⟩ => ?_)
    subst hr
    exact wpAny_execs_nil ⟨σ3, H3, I4, qn⟩
  · refine wpAny_passesOwn hp (thn (T.item X rfl rfl rfl hc i pins s3 σ3 H3 X.xe I3 (stat fr3) st3 go) fun r s4 ⟨u, hr, h4⟩ => ?_)
    subst hr
    refine wpAny_passesOwn hp (thn h4 fun _ s5 ⟨x, H5, I5, r5, y5, st5, fr5⟩ => ?_)
    have I5' := I5.pinned (stat fr5) (T.obj _ _ st5)
    refine wpAny_passesOwn hp (thn (hg _ s5 σ3 H5 x u _ I5' r5 (step x H5 y5)) fun _ s6 ⟨σ6, H6, I6, q6⟩ => ?_)
    refine wpAny_passesOwn hp (thn (hb _ s6 σ6 H6 _ I6 q6) fun f s7 q7 => ?_)
    have again : ∀ {σ7 : St} {H7 : Hp}, Inv X (pins ++ pinsAt fp s5.heap) σ7 H7 s7 → N σ7 H7 → ∃ m, m < n ∧ ∃ i σ' H', Inv X pins σ' H' s7 ∧ tn i s7.heap ∧ (∀ b ∈ fp, H' b = none) ∧ W i m σ' H' := fun {σ7 H7} I7 n7 => by
      obtain ⟨m', hm, w7⟩ := hN σ7 H7 n7
      refine ⟨m', hm, i + 1, σ7, H7, I7.unpinned, T.keep _ _ _ st5 fun b hb o e => (I7.pin (b, o) (List.mem_append_right _ (List.mem_append_right _ (mem_pinsAt hb e)))).1, fun b hb => ?_, w7⟩
      obtain ⟨o, e, d⟩ := T.obj _ _ st5 b hb
      exact (I7.pin (b, o) (List.mem_append_right _ (List.mem_append_right _ (mem_pinsAt hb e)))).2.1
    cases f with
    | next => obtain ⟨σ7, H7, I7, n7⟩ := q7; exact again I7 n7
    | cont => obtain ⟨σ7, H7, I7, n7⟩ := q7; exact again I7 n7
    | brk => obtain ⟨σ7, H7, I7, q7⟩ := q7; exact ⟨σ7, H7, I7.unpinned, q7⟩
    | ret v => obtain ⟨x7, σ7, H7, I7, r7, q7⟩ := q7; exact ⟨x7, σ7, H7, I7.unpinned, r7, q7⟩
end
end L2
namespace L2
open PySem PySem.Spec PyProof.Rows
noncomputable abbrev R2 := V → V → Hp → VK → Prop
noncomputable def OpR (X : Cx) (f : Value → Value → Sem Value) (r : R2) : Prop :=
  ∀ (pins : List (Addr × Obj)) (s : Shared) (σ : St) (H : Hp) (x y : V) (v u : Value) (Q : VK), Inv X pins σ H s → RelV x v → RelV y u → r x y H Q →
    wpAny (model X.prog X.w) X.A (f v u) (EP X pins σ Q) X.xe s
noncomputable def CallR (X : Cx) (f : Value) (r : List V → Hp → VK → Prop) : Prop :=
  ∀ (pins : List (Addr × Obj)) (s : Shared) (σ : St) (H : Hp) (xs : List V) (us : List Value) (Q : VK), Inv X pins σ H s → Vals xs us → r xs H Q →
    wpAny (model X.prog X.w) X.A (call f us) (EP X pins σ Q) X.xe s
noncomputable def TruR (X : Cx) (r : V → Hp → (Bool → Hp → Prop) → Prop) : Prop :=
  ∀ (pins : List (Addr × Obj)) (s : Shared) (σ : St) (H : Hp) (x : V) (v : Value) (Q : Bool → Hp → Prop), Inv X pins σ H s → RelV x v → r x H Q →
    wpAny (model X.prog X.w) X.A (truthy v) (TP X pins σ Q) X.xe s
noncomputable def tOp (r : R2) (ta tb : TE) : TE := fun σ H Q => ta σ H fun x H1 => tb σ H1 fun y H2 => r x y H2 Q
noncomputable def rI (C : Int → Int → Prop) (g : Int → Int → V) : R2 := fun x y H Q => ∃ i j, x = .int i ∧ y = .int j ∧ C i j ∧ Q (g i j) H
noncomputable def rI0 (g : Int → Int → V) : R2 := fun x y H Q => ∃ i j, x = .int i ∧ y = .int j ∧ Q (g i j) H
section
variable {X : Cx} {a b c : Expr} {ta tb tc : TE} {pos : Pos}
theorem binT (ha : PE X a ta) (hb : PE X b tb) {pins : List (Addr × Obj)} {s : Shared} {σ : St} {H : Hp} {R : V → V → Hp → Prop} (I : Inv X pins σ H s)
    (h : ta σ H fun x H1 => tb σ H1 fun y H2 => R x y H2) {Q : Value → Shared → Prop} {f : Value → Value → Sem Value}
    (hf : ∀ v u s2 x y H2, Inv X pins σ H2 s2 → RelV x v → RelV y u → R x y H2 → wpAny (model X.prog X.w) X.A (f v u) Q X.xe s2) :
    wpAny (model X.prog X.w) X.A (eval a X.env) (fun v s₁ => wpAny (model X.prog X.w) X.A (eval b X.env) (fun u s₂ => wpAny (model X.prog X.w) X.A (f v u) Q X.xe s₂) X.xe s₁) X.xe s := by
  refine thn (ha pins s σ H _ I h) fun v s1 ⟨x, H1, I1, r1, q1⟩ => ?_
  refine thn (hb pins s1 σ H1 _ I1 q1) fun u s2 ⟨y, H2, I2, r2, q2⟩ => ?_
  exact hf v u s2 x y H2 I2 r1 r2 q2
theorem pe_op {op : Operator} {r : R2} (ho : OpR X (binaryOp op) r) (ha : PE X a ta) (hb : PE X b tb) : PE X (.BinOp a op b pos) (tOp r ta tb) := by
  intro pins s σ H Q I h
  exact wpAny_BinOp (binT ha hb I h fun v u s2 x y H2 I2 rx ry q => ho pins s2 σ H2 x y v u Q I2 rx ry q)
theorem opI {f : Value → Value → Sem Value} {C : Int → Int → Prop} {g : Int → Int → Int}
    (rule : ∀ (i j : Int) (t u : Tok) (s : Shared) (Q : Value → Shared → Prop) (E : Value → Shared → Prop), C i j → Q (.int (g i j) s.toks) { s with toks := s.toks + 1 } → wpAny (model X.prog X.w) X.A (f (.int i t) (.int j u)) Q E s) :
    OpR X f (rI C fun i j => .int (g i j)) := by
  intro pins s σ H x y v u Q I rx ry h
  obtain ⟨i, j, rfl, rfl, hc, q⟩ := h
  obtain ⟨t, rfl⟩ := rx
  obtain ⟨t', rfl⟩ := ry
  exact rule i j t t' s _ _ hc ⟨.int (g i j), H, I.tok _, ⟨_, rfl⟩, q⟩
theorem opI0 {f : Value → Value → Sem Value} {g : Int → Int → Int}
    (rule : ∀ (i j : Int) (t u : Tok) (s : Shared) (Q : Value → Shared → Prop) (E : Value → Shared → Prop), Q (.int (g i j) s.toks) { s with toks := s.toks + 1 } → wpAny (model X.prog X.w) X.A (f (.int i t) (.int j u)) Q E s) :
    OpR X f (rI0 fun i j => .int (g i j)) := by
  intro pins s σ H x y v u Q I rx ry h
  obtain ⟨i, j, rfl, rfl, q⟩ := h
  obtain ⟨t, rfl⟩ := rx
  obtain ⟨t', rfl⟩ := ry
  exact rule i j t t' s _ _ ⟨.int (g i j), H, I.tok _, ⟨_, rfl⟩, q⟩
theorem opB0 {f : Value → Value → Sem Value} {g : Int → Int → Bool}
    (rule : ∀ (i j : Int) (t u : Tok) (s : Shared) (Q : Value → Shared → Prop) (E : Value → Shared → Prop), Q (.bool (g i j)) s → wpAny (model X.prog X.w) X.A (f (.int i t) (.int j u)) Q E s) :
    OpR X f (rI0 fun i j => .bl (g i j)) := by
  intro pins s σ H x y v u Q I rx ry h
  obtain ⟨i, j, rfl, rfl, q⟩ := h
  obtain ⟨t, rfl⟩ := rx
  obtain ⟨t', rfl⟩ := ry
  exact rule i j t t' s _ _ ⟨.bl (g i j), H, I, rfl, q⟩
noncomputable def CDiv (i j : Int) : Prop := 0 < j ∧ j < 1073741824
noncomputable def CMul (i j : Int) : Prop := (-(2 ^ 64) < i ∧ i < 2 ^ 64) ∨ (-(2 ^ 64) < j ∧ j < 2 ^ 64)
theorem CMul.ok {i j : Int} (h : CMul i j) : IntMulOk i j := by
  rcases h with ⟨h1, h2⟩ | ⟨h1, h2⟩
  · exact .of_left (intBits_le_64 h1 h2)
  · exact .of_right (intBits_le_64 h1 h2)
theorem op_add : OpR X (binaryOp .Add) (rI0 fun i j => .int (i + j)) := opI0 fun _ _ _ _ _ _ _ q => add_int q
theorem op_sub : OpR X (binaryOp .Sub) (rI0 fun i j => .int (i - j)) := opI0 fun _ _ _ _ _ _ _ q => sub_int q
theorem op_fdiv : OpR X (binaryOp .FloorDiv) (rI CDiv fun i j => .int (i / j)) := opI fun i j _ _ _ _ _ hc q => by
  have h1 : (0 : Int) < j := hc.1
  have h2 : j < 1073741824 := hc.2
  exact floordiv_int (by omega) (by rw [Int.fdiv_eq_ediv_of_nonneg i (by omega)]; exact q) (.inl (PyProof.noPylong_small (by omega)))
theorem op_mod : OpR X (binaryOp .Mod) (rI (fun _ j => 0 < j) fun i j => .int (i % j)) := opI fun i j _ _ _ _ _ hc q => by
  have h1 : (0 : Int) < j := hc
  exact mod_int' (by omega) (by rw [Int.fmod_eq_emod_of_nonneg i (by omega)]; exact q)
end
section
variable {X : Cx} {a b c : Expr} {ta tb tc : TE} {pos : Pos}
theorem fin_bl {pins : List (Addr × Obj)} {σ : St} {H : Hp} {s : Shared} {Q : VK} {k k' : Bool} (I : Inv X pins σ H s) (q : Q (.bl k) H) (e : k = k') : EP X pins σ Q (.bool k') s := by
  subst e
  exact ⟨.bl k, H, I, rfl, q⟩
theorem op_lt : OpR X (compareOp .Lt) (rI0 fun i j => .bl (decide (i < j))) := opB0 fun _ _ _ _ _ _ _ q => lt_int q
theorem op_gt : OpR X (compareOp .Gt) (rI0 fun i j => .bl (decide (j < i))) := opB0 fun _ _ _ _ _ _ _ q => gt_int q
theorem op_ge : OpR X (compareOp .GtE) (rI0 fun i j => .bl (decide (j ≤ i))) := opB0 fun _ _ _ _ _ _ _ q => ge_int q
theorem op_isN : OpR X (compareOp .Is) (fun x y H Q => y = .non ∧ Q (.bl (decide (x = .non))) H) := by
  intro pins s σ H x y v u Q I rx ry h
  obtain ⟨rfl, q⟩ := h
  cases ry
  refine is_none_gen (fin_bl I q ?_)
  cases x <;> first
    | (cases rx; rfl)
    | (obtain ⟨t, rfl⟩ := rx; rfl)
theorem OpR.or {f : Value → Value → Sem Value} {r r' : R2} (h : OpR X f r) (h' : OpR X f r') : OpR X f (fun x y H Q => r x y H Q ∨ r' x y H Q) := by
  intro pins s σ H x y v u Q I rx ry q
  rcases q with q | q
  · exact h pins s σ H x y v u Q I rx ry q
  · exact h' pins s σ H x y v u Q I rx ry q
theorem nomark (b : Expr) {op : CmpOp} (h : op ≠ .In := by decide) (h2 : op ≠ .NotIn := by decide) : behindInMarks op b = false := by
  have e1 : (op == CmpOp.In) = false := by cases op <;> first | rfl | exact absurd rfl h
  have e2 : (op == CmpOp.NotIn) = false := by cases op <;> first | rfl | exact absurd rfl h2
  cases b <;> simp [behindInMarks, e1, e2]
noncomputable def tTest (t : TE) : TT := fun σ H Q => t σ H fun x H' => ∃ k, x = .bl k ∧ Q k H'
theorem pt_cmpR {op : CmpOp} {r : R2} (ho : OpR X (compareOp op) r) (ha : PE X a ta) (hb : PE X b tb) (hm : behindInMarks op b = false) : PT X (.Compare a [op] [b] pos) (tTest (tOp r ta tb)) := by
  intro pins s σ H Q I h
  refine wpAny_isTrue_Compare1 (thn (ha pins s σ H _ I h) fun v s1 ⟨x, H1, I1, r1, q1⟩ => thn (hb pins s1 σ H1 _ I1 q1) fun u s2 ⟨y, H2, I2, r2, q2⟩ =>
    thn (ho pins s2 σ H2 x y v u _ I2 r1 r2 q2) fun c s3 ⟨z, H3, I3, r3, k, e, q3⟩ => ?_) hm
  subst e
  cases r3
  exact wpAny_truthy_bool ⟨H3, I3, q3⟩
noncomputable def TruV (K : PySem.W.Frag) (x : V) (H : Hp) (k : Bool) : Prop :=
  match x with
  | .non => k = false
  | .bl b => k = b
  | .int i => k = (i != 0)
  | .str y => y.length ≤ sizeLine ∧ k = ((y.length : Int) != 0)
  | .byt y => y.size ≤ sizeLine ∧ k = ((y.size : Int) != 0)
  | .ref p => (∃ xs, SqL K H p xs ∧ k = !xs.isEmpty) ∨ (∃ xs, SqT K H p xs ∧ k = !xs.isEmpty) ∨ ∃ kvs, H p = some (.dK kvs) ∧ k = !kvs.isEmpty
  | _ => False
theorem isEmpty_kv {κ : Type} {kvs : List (κ × V)} {vs : List (κ × Value)} (r : KV kvs vs) : (!vs.isEmpty) = !kvs.isEmpty := by
  cases r <;> rfl
theorem isEmpty_of {xs : List V} {its : List Value} (r : Vals xs its) : (!its.toArray.isEmpty) = !xs.isEmpty := by
  cases r <;> simp
theorem line63 : (sizeLine : Nat) < 2 ^ 63 := by rw [sizeLine_eq]; decide
theorem tru_ok : TruR X (fun x H Q => ∃ k, TruV X.K x H k ∧ Q k H) := by
  intro pins s σ H x v Q I rx h
  obtain ⟨k, e, q⟩ := h
  have hl := line63
  have hs : sizeLine = 16777216 := sizeLine_eq
  cases x with
  | non =>
    cases rx
    have e' : k = false := e
    subst e'
    exact truthy_none ⟨H, I, q⟩
  | bl b =>
    cases rx
    have e' : k = b := e
    subst e'
    exact wpAny_truthy_bool ⟨H, I, q⟩
  | int i =>
    obtain ⟨t, rfl⟩ := rx
    have e' : k = (i != 0) := e
    subst e'
    exact PySem.P.truthy_int ⟨H, I, q⟩
  | str y =>
    obtain ⟨t, rfl⟩ := rx
    obtain ⟨hy, e'⟩ : y.length ≤ sizeLine ∧ k = ((y.length : Int) != 0) := e
    subst e'
    exact PySem.P.truthy_str (by omega) ⟨H, I.tok _, q⟩
  | byt y =>
    obtain ⟨t, rfl⟩ := rx
    obtain ⟨hy, e'⟩ : y.size ≤ sizeLine ∧ k = ((y.size : Int) != 0) := e
    subst e'
    exact PySem.W.truthy_bytes (by omega) ⟨H, I.tok _, q⟩
  | ref p =>
    cases rx
    have e' : (∃ xs, SqL X.K H p xs ∧ k = !xs.isEmpty) ∨ (∃ xs, SqT X.K H p xs ∧ k = !xs.isEmpty) ∨ ∃ kvs, H p = some (.dK kvs) ∧ k = !kvs.isEmpty := e
    rcases e' with ⟨xs, hx, e'⟩ | ⟨xs, hx, e'⟩ | ⟨kvs, hx, e'⟩
    · subst e'
      obtain ⟨its, r, pl, hz⟩ := I.list hx
      have hlen := r.length
      exact wpAny_truthy_list pl.isList (by simp only [List.size_toArray]; omega) ⟨H, I.tok _, by rw [isEmpty_of r]; exact q⟩
    · subst e'
      obtain ⟨its, r, pl, hz⟩ := I.tuple hx
      have hlen := r.length
      exact truthy_tuple pl (by simp only [List.size_toArray]; omega) ⟨H, I.tok _, by rw [isEmpty_of r]; exact q⟩
    · subst e'
      obtain ⟨hz, hS, vs, r, m⟩ : kvs.length ≤ sizeLine ∧ (p == sysModules) = false ∧ ∃ vs, KV kvs vs ∧ s.heap.DictOf (mixKind X.prog X.w) p vs := I.hok p _ hx
      have hlen : kvs.length = vs.length := Paired.length r
      exact wpAny_truthy_dict hS m (by omega) ⟨H, I.tok _, by rw [isEmpty_kv r]; exact q⟩
  | _ => exact (show False from e).elim
theorem pt_truth (ha : PE X a ta) (he : ∀ whole, isTrue a X.env whole = (do let v ← whole; standAt a.pos; holding [v] (truthy v))) :
    PT X a (fun σ H Q => ta σ H fun x H' => ∃ k, TruV X.K x H' k ∧ Q k H') := by
  intro pins s σ H Q I h
  exact isTrue_plain (thn (ha pins s σ H _ I h) fun v s1 ⟨x, H1, I1, r1, q1⟩ => tru_ok pins s1 σ H1 x v Q I1 r1 q1) (he _)
theorem op_add_str : OpR X (binaryOp .Add) (fun x y H Q => ∃ i j, x = .str i ∧ y = .str j ∧ i.length + j.length ≤ sizeLine ∧ Q (.str (i ++ j)) H) := by
  intro pins s σ H x y v u Q I rx ry h
  obtain ⟨i, j, rfl, rfl, hz, q⟩ := h
  obtain ⟨t, rfl⟩ := rx
  obtain ⟨t', rfl⟩ := ry
  exact add_str (fun t' tk => ⟨.str (i ++ j), H, I.tok _, ⟨_, rfl⟩, q⟩) hz
theorem vals1 {x : V} {us : List Value} (r : Vals [x] us) : ∃ u, us = [u] ∧ RelV x u := by
  cases r with
  | cons r1 r2 => cases r2; exact ⟨_, rfl, r1⟩
theorem vals2 {x y : V} {us : List Value} (r : Vals [x, y] us) : ∃ u w', us = [u, w'] ∧ RelV x u ∧ RelV y w' := by
  cases r with
  | cons r1 r2 =>
    cases r2 with
    | cons r3 r4 => cases r4; exact ⟨_, _, rfl, r1, r3⟩
theorem call_max2 (hc : X.calm = true) : CallR X (.builtin "max") (fun xs H Q => ∃ i j, xs = [.int i, .int j] ∧ Q (.int (if j > i then j else i)) H) := by
  intro pins s σ H xs us Q I r h
  obtain ⟨i, j, rfl, q⟩ := h
  obtain ⟨u, w', rfl, ⟨t, rfl⟩, ⟨t', rfl⟩⟩ := vals2 r
  refine max_two_ints (I.ok.hd hc) fun h' tk k => ⟨_, H, I.kept k, ?_, q⟩
  by_cases hj : j > i
  · rw [if_pos hj, if_pos hj]; exact ⟨_, rfl⟩
  · rw [if_neg hj, if_neg hj]; exact ⟨_, rfl⟩
theorem call_min2 (hc : X.calm = true) : CallR X (.builtin "min") (fun xs H Q => ∃ i j, xs = [.int i, .int j] ∧ Q (.int (if j < i then j else i)) H) := by
  intro pins s σ H xs us Q I r h
  obtain ⟨i, j, rfl, q⟩ := h
  obtain ⟨u, w', rfl, ⟨t, rfl⟩, ⟨t', rfl⟩⟩ := vals2 r
  refine min_two_ints (I.ok.hd hc) fun h' tk k => ⟨_, H, I.kept k, ?_, q⟩
  by_cases hj : j < i
  · rw [if_pos hj, if_pos hj]; exact ⟨_, rfl⟩
  · rw [if_neg hj, if_neg hj]; exact ⟨_, rfl⟩
noncomputable def LenV (K : PySem.W.Frag) (x : V) (H : Hp) (n : Nat) : Prop :=
  match x with
  | .str y => y.length ≤ sizeLine ∧ n = y.length
  | .byt y => y.size ≤ sizeLine ∧ n = y.size
  | .ref p => (∃ xs, SqL K H p xs ∧ n = xs.length) ∨ ∃ xs, SqT K H p xs ∧ n = xs.length
  | _ => False
theorem call_len : CallR X (.builtin "len") (fun xs H Q => ∃ x n, xs = [x] ∧ LenV X.K x H n ∧ Q (.int n) H) := by
  intro pins s σ H xs us Q I r h
  obtain ⟨x, n, rfl, e, q⟩ := h
  obtain ⟨u, rfl, rx⟩ := vals1 r
  have hl := line63
  have hs : sizeLine = 16777216 := sizeLine_eq
  cases x with
  | str y =>
    obtain ⟨t, rfl⟩ := rx
    obtain ⟨hy, e'⟩ : y.length ≤ sizeLine ∧ n = y.length := e
    subst e'
    exact len_str (by omega) ⟨.int _, H, I.tok _, ⟨_, rfl⟩, q⟩
  | byt y =>
    obtain ⟨t, rfl⟩ := rx
    obtain ⟨hy, e'⟩ : y.size ≤ sizeLine ∧ n = y.size := e
    subst e'
    exact PySem.W.len_bytes (by omega) ⟨.int _, H, I.tok _, ⟨_, rfl⟩, q⟩
  | ref p =>
    cases rx
    have e' : (∃ xs, SqL X.K H p xs ∧ n = xs.length) ∨ ∃ xs, SqT X.K H p xs ∧ n = xs.length := e
    rcases e' with ⟨xs, hx, e'⟩ | ⟨xs, hx, e'⟩
    · subst e'
      obtain ⟨its, r', pl, hz⟩ := I.list hx
      have hlen := r'.length
      exact Calls.call_len_list pl.isList (by simp only [List.size_toArray]; omega) ⟨.int xs.length, H, I.tok _, ⟨_, by simp only [List.size_toArray]; rw [hlen]⟩, q⟩
    · subst e'
      obtain ⟨its, r', pl, hz⟩ := I.tuple hx
      have hlen := r'.length
      exact len_tuple pl (by simp only [List.size_toArray]; omega) ⟨.int xs.length, H, I.tok _, ⟨_, by simp only [List.size_toArray]; rw [hlen]⟩, q⟩
  | _ => exact (show False from e).elim
end
end L2
namespace L2
open PySem PySem.Spec PyProof.Rows
structure ObjM (h : Heap) (x dx C : Addr) (mA : Str → Option Value) : Prop where
  obj : h.get? x = some (PySem.W.instObj C dx)
  ns : h.Ns1 dx mA
  ne : dx ≠ x
theorem lookIn_ns {h : Heap} {dx : Addr} {mA : Str → Option Value} (n : h.Ns1 dx mA) : ∃ od, h.get? dx = some od ∧ ∀ name, PySem.W.lookIn name od = some (mA name) := by
  obtain ⟨o, es, ep, ho, hd, hk, _, hm⟩ := n
  refine ⟨o, ho, fun name => ?_⟩
  have e := hm name
  unfold nsFind findBy at e
  rw [← Array.find?_toList] at e
  unfold PySem.W.lookIn
  rw [hd]
  dsimp only
  split
  · rename_i y q
    rw [q] at e
    exact congrArg some e
  · rename_i q
    rw [q] at e
    have a : es.toList.any (·.refKey) = false := by
      rw [List.any_eq_false]
      intro y hy
      obtain ⟨z, t, hkey⟩ := hk y (Array.mem_toList_iff.mp hy)
      simp [DictEntry.refKey, hkey]
    have a' : ¬ es.toList.any (·.refKey) = true := by rw [a]; exact Bool.false_ne_true
    rw [if_neg a']
    exact congrArg some e
theorem ObjM.look {h : Heap} {x dx C : Addr} {mA : Str → Option Value} (I : ObjM h x dx C mA) : ∃ od, PySem.W.InstAt h x (PySem.W.instObj C dx) C (some od) ∧ ∀ name, PySem.W.lookIn name od = some (mA name) :=
  let ⟨od, ho, hl⟩ := lookIn_ns I.ns
  ⟨od, ⟨I.obj, rfl, rfl, ho⟩, hl⟩
section
variable {prog : Program} {w : World} {A : Around} {E : Value → Shared → Prop} {s : Shared} {K : PySem.W.Frag} {x dx C f : Addr} {mA : Str → Option Value} {name : Str} {v : Value}
theorem get_map {expr : Bool} {Q : Value → Shared → Prop} (X : K.In s.heap) (I : ObjM s.heap x dx C mA) (hg : PySem.W.plainGet K C name = true) (hh : PySem.W.hasDictIn K C = true)
    (ha : PySem.W.findIn K (.ref C) name = some none) (hv : mA name = some v) (hv' : PySem.W.handedIn v = true) (h : Q v { s with toks := s.toks + 1 }) :
    wpAny (model prog w) A (getAttr (.ref x) name expr) Q E s := by
  obtain ⟨od, J, hl⟩ := I.look
  exact PySem.W.get_value X J (PySem.W.plainGet_of hg).1 (PySem.W.findObj_own hh ha rfl (by rw [hl, hv])) hv' h
theorem get_meth {pl : Sem Bool} {Q : Value × List Value → Shared → Prop} (X : K.In s.heap) (I : ObjM s.heap x dx C mA) (hg : PySem.W.plainGet K C name = true)
    (hf : PySem.W.findIn K (.ref C) name = some (some (.ref f))) (ht : PySem.W.isFn K (.ref f) = true) (hv : mA name = none) (h : Q (.ref f, [.ref x]) s) :
    wpAny (model prog w) A (getMethod (.ref x) name pl) Q E s := by
  obtain ⟨od, J, hl⟩ := I.look
  exact PySem.W.method_fn X J (PySem.W.plainGet_of hg).1 (PySem.W.plainGet_of hg).2 hf (beq_iff_eq.mp ht) (by show (PySem.W.lookIn name od).map (·.isSome) = some false; rw [hl, hv]; rfl) h
theorem set_map {ns : List Str} {Q : Unit → Shared → Prop} (X : K.In s.heap) (I : ObjM s.heap x dx C mA)
    (hs : PySem.W.findIn K (.ref C) "__setattr__" = some (some (.builtin "object.__setattr__"))) (hp : PySem.W.plainOver K C = true) (ht : PySem.W.takerIn K C name = some none) (hh : PySem.W.hasDictIn K C = true)
    (hw : PySem.Within mA ns) (hsz : ns.length ≤ sizeLine)
    (h : ∀ h', ObjM h' x dx C (fun y => if y = name then some v else mA y) → Heap.SameBut dx s.heap h' → Q () { s with heap := h', toks := s.toks + 2 }) :
    wpAny (model prog w) A (setAttr (.ref x) name v) Q E s := by
  obtain ⟨od, J, hl⟩ := I.look
  refine PySem.W.set_plain X J hs (PySem.W.osa_open (s := { s with toks := s.toks + 1 }) (r := none) X J hp ht fun b => ?_)
  obtain ⟨cd, hc, hd'⟩ := PySem.W.any_some hh
  have hx : s.heap.get? x = some ⟨.ref C, some dx, .plain, #[]⟩ := I.obj
  refine wpAny_bind (wpAny_pure (wpAny_bind (wpAny_bind (wpAny_loadPart hx (wpAny_bind (PySem.W.Looks.here (s := { s with toks := s.toks + 1 }) (PySem.W.looks_clsIn X hc) ?_))))))
  rw [hd']
  refine wpAny_pure (a := some dx) (wpAny_bind (wpAny_pure (wpAny_bind ?_)))
  refine wpAny_nsSet1 (s := { s with toks := s.toks + 1 }) I.ns fun h' hn2 hs2 => ?_
  obtain ⟨oD, esD, epD, hoD, hdD, hcD⟩ := hn2.count (PySem.Within.cons name v hw)
  refine wpAny_bind (wpAny_lookBehind hoD (by rw [hdD]; exact pastItsLine_dict (Nat.le_trans hcD (by rw [List.length_cons]; omega))) ?_)
  exact wpAny_pure (h _ ⟨(hs2.2 _ (Ne.symm I.ne)).trans I.obj, hn2, I.ne⟩ hs2)
theorem make_map {R : Result → Shared → Prop} {vs : List Value} {kw : List (Str × Value)} (X : K.In s.heap) (hm : PySem.W.makesIn K C = true)
    (hi : PySem.W.findIn K (.ref C) "__init__" = some (some (.ref f))) (hf : PySem.W.typeIn K (.ref f) = some (.type "function"))
    (h : codeAny (model prog w) (A.under (.builtin "type.__call__" ⟨.ref C :: vs, kw⟩)) (.call (.ref f) ⟨.ref (s.heap.objs.size + 1) :: vs, kw⟩) (PySem.W.InitBack (s.heap.objs.size + 1) R)
      { s with heap := (s.heap.push PySem.W.emptyDict).push (PySem.W.instObj C s.heap.objs.size) }) :
    codeAny (model prog w) A (.call (.ref C) ⟨vs, kw⟩) R s := by
  obtain ⟨hh, g, d, t, os⟩ := s
  exact PySem.W.make_core (PySem.W.makes_of X hm) (PySem.W.looks_findIn X hi) (fun self => PySem.W.bind_fn X self hf) (.inl rfl) h
end
noncomputable def putF (f : Str) (v : V) : List (Str × V) → List (Str × V)
  | [] => [(f, v)]
  | (g, x) :: r => if g = f then (g, v) :: r else (g, x) :: putF f v r
theorem lookup_putF (f g : Str) (v : V) : ∀ fs : List (Str × V), (putF f v fs).lookup g = if g = f then some v else fs.lookup g
  | [] => by
    show List.lookup g [(f, v)] = _
    by_cases h : g = f
    · have hb : (g == f) = true := beq_iff_eq.mpr h
      simp only [List.lookup, hb, if_pos h]
    · have hb : (g == f) = false := beq_eq_false_iff_ne.mpr h
      simp only [List.lookup, hb, if_neg h]
  | (k, x) :: r => by
    have ih := lookup_putF f g v r
    rw [show putF f v ((k, x) :: r) = (if k = f then (k, v) :: r else (k, x) :: putF f v r) from rfl]
    by_cases hk : k = f
    · rw [if_pos hk]
      by_cases h : g = k
      · have hb : (g == k) = true := beq_iff_eq.mpr h
        simp only [List.lookup, hb, if_pos (h.trans hk)]
      · have hb : (g == k) = false := beq_eq_false_iff_ne.mpr h
        simp only [List.lookup, hb, if_neg (fun e : g = f => h (e.trans hk.symm))]
    · rw [if_neg hk]
      by_cases h : g = k
      · have hb : (g == k) = true := beq_iff_eq.mpr h
        simp only [List.lookup, hb, if_neg (fun e : g = f => hk (h.symm.trans e))]
      · have hb : (g == k) = false := beq_eq_false_iff_ne.mpr h
        simp only [List.lookup, hb]
        exact ih
theorem keys_putF (f : Str) (v : V) : ∀ fs : List (Str × V), f ∈ (putF f v fs).map (·.1) ∧ ∀ g, g ∈ fs.map (·.1) → g ∈ (putF f v fs).map (·.1)
  | [] => ⟨by simp [putF], fun g h => by simp at h⟩
  | (k, x) :: r => by
    obtain ⟨i1, i2⟩ := keys_putF f v r
    rw [show putF f v ((k, x) :: r) = (if k = f then (k, v) :: r else (k, x) :: putF f v r) from rfl]
    by_cases hk : k = f
    · rw [if_pos hk]
      subst hk
      exact ⟨by simp, fun g h => by simpa using h⟩
    · rw [if_neg hk]
      refine ⟨?_, fun g h => ?_⟩
      · rw [List.map_cons]
        exact List.mem_cons_of_mem _ i1
      · rw [List.map_cons] at h ⊢
        rcases List.mem_cons.mp h with e | e
        · exact List.mem_cons.mpr (.inl e)
        · exact List.mem_cons_of_mem _ (i2 g e)
theorem length_putF (f : Str) (v : V) : ∀ fs : List (Str × V), (putF f v fs).length ≤ fs.length + 1
  | [] => by simp [putF]
  | (k, x) :: r => by
    have ih := length_putF f v r
    rw [show putF f v ((k, x) :: r) = (if k = f then (k, v) :: r else (k, x) :: putF f v r) from rfl]
    by_cases hk : k = f
    · rw [if_pos hk, List.length_cons, List.length_cons]; omega
    · rw [if_neg hk, List.length_cons, List.length_cons]; omega
theorem RelO.some_of {v : V} {o : Option Value} (r : RelO (some v) o) : ∃ u, o = some u ∧ RelV v u := by
  cases o with
  | none => exact (show False from r).elim
  | some u => exact ⟨u, rfl, r⟩
theorem RelO.none_of {o : Option Value} (r : RelO none o) : o = none := by
  cases o with
  | none => rfl
  | some u => exact (show False from r).elim
theorem handed_of {v : V} {u : Value} (r : RelV v u) : PySem.W.handedIn u = true := by
  cases v with
  | non => cases (show u = Value.none from r); rfl
  | bl b => cases (show u = Value.bool b from r); rfl
  | int i => obtain ⟨t, e⟩ := (show ∃ t, u = Value.int i t from r); cases e; rfl
  | str x => obtain ⟨t, e⟩ := (show ∃ t, u = Value.str x t from r); cases e; rfl
  | byt b => obtain ⟨t, e⟩ := (show ∃ t, u = Value.bytes b t from r); cases e; rfl
  | flt b => obtain ⟨t, e⟩ := (show ∃ t, u = Value.float b t from r); cases e; rfl
  | ref a => cases (show u = Value.ref a from r); rfl
  | ty n => cases (show u = Value.type n from r); rfl
section
variable {P : Program} {w : World} {H H' : Hp} {h h' : Heap} {a C dx : Addr} {fs fs' : List (Str × V)}
theorem ins_get (hok : HOk P w H h) (e : H a = some (.ins C dx fs)) : ∃ mA, ObjM h a dx C mA ∧ (∀ f, RelO (fs.lookup f) (mA f)) ∧ PySem.Within mA (fs.map (·.1)) ∧ fs.length ≤ 1000 ∧ H dx = some (.own a) := by
  obtain ⟨d, z, ne, ob, mA, n, r, q⟩ := (show ObjOk P w H h a (.ins C dx fs) from hok a _ e)
  exact ⟨mA, ⟨ob, n, ne⟩, r, q, z, d⟩
end
structure Cls (K : PySem.W.Frag) (C : Addr) : Prop where
  pg : PySem.W.plainGet K C Str.empty = true
  hd : PySem.W.hasDictIn K C = true
  po : PySem.W.plainOver K C = true
  sa : PySem.W.findIn K (.ref C) "__setattr__" = some (some (.builtin "object.__setattr__"))
theorem Cls.get {K : PySem.W.Frag} {C : Addr} (c : Cls K C) (f : Str) : PySem.W.plainGet K C f = true := c.pg
noncomputable def NoAttr (K : PySem.W.Frag) (C : Addr) (f : Str) : Prop := PySem.W.findIn K (.ref C) f = some none
theorem NoAttr.taker {K : PySem.W.Frag} {C : Addr} {f : Str} (n : NoAttr K C f) : PySem.W.takerIn K C f = some none := by
  unfold PySem.W.takerIn
  rw [show PySem.W.findIn K (.ref C) f = some none from n]
  rfl
structure Con (K : PySem.W.Frag) (C : Addr) (f : Str) (v : V) (u : Value) : Prop where
  at_ : PySem.W.findIn K (.ref C) f = some (some u)
  rel : RelV v u
  get : PySem.W.specialIn K u "__get__" = some none
  cp : PySem.W.copiedNames.contains f = false
structure Meth (K : PySem.W.Frag) (C : Addr) (m : Str) (f : Addr) : Prop where
  at_ : PySem.W.findIn K (.ref C) m = some (some (.ref f))
  fn : PySem.W.isFn K (.ref f) = true
  kp : PySem.W.keepIn K (.ref f) = true
section
variable {X : Cx} {pins : List (Addr × Obj)} {σ : St} {H : Hp} {s : Shared} {a C dx : Addr} {fs : List (Str × V)} {f : Str} {v : V} {A : Around} {E : Value → Shared → Prop}
theorem getattr_ok {b : Bool} {Q : Value → Shared → Prop} (I : Inv X pins σ H s) (e : H a = some (.ins C dx fs)) (c : Cls X.K C) (n : NoAttr X.K C f) (l : fs.lookup f = some v)
    (h : ∀ u s', Inv X pins σ H s' → RelV v u → Q u s') : wpAny (model X.prog X.w) A (getAttr (.ref a) f b) Q E s := by
  obtain ⟨mA, O, r, _, _, _⟩ := ins_get I.hok e
  obtain ⟨u, hu, ru⟩ := RelO.some_of (v := v) (o := mA f) (by rw [← l]; exact r f)
  exact get_map I.kIn O (c.get f) c.hd n hu (handed_of ru) (h u _ (I.tok _) ru)
theorem getmeth_ok {m : Str} {g : Addr} {pl : Sem Bool} {Q : Value × List Value → Shared → Prop} (I : Inv X pins σ H s) (e : H a = some (.ins C dx fs)) (c : Cls X.K C) (k : Meth X.K C m g) (l : fs.lookup m = none)
    (h : Q (.ref g, [.ref a]) s) : wpAny (model X.prog X.w) A (getMethod (.ref a) m pl) Q E s := by
  obtain ⟨mA, O, r, _, _, _⟩ := ins_get I.hok e
  have hn : mA m = none := RelO.none_of (by rw [← l]; exact r m)
  exact get_meth I.kIn O (c.get m) k.at_ k.fn hn h
theorem setattr_ok {y : V} {u : Value} {Q : Unit → Shared → Prop} (I : Inv X pins σ H s) (e : H a = some (.ins C dx fs)) (c : Cls X.K C) (n : NoAttr X.K C f) (hl : fs.length < 1000) (ry : RelV y u)
    (h : ∀ s', Inv X pins σ (upd H a (.ins C dx (putF f y fs))) s' → Q () s') : wpAny (model X.prog X.w) A (setAttr (.ref a) f u) Q E s := by
  obtain ⟨mA, O, r, wi, _, ho⟩ := ins_get I.hok e
  have hz : (fs.map (·.1)).length ≤ sizeLine := by rw [List.length_map, sizeLine_eq]; omega
  refine set_map I.kIn O c.sa c.po n.taker c.hd wi hz fun h' O' sb => h _ ?_
  have hd : ∃ o, h'.get? dx = some o := let ⟨o, _, _, e', _⟩ := O'.ns; ⟨o, e'⟩
  refine I.write (x := a) (e := dx) (by rw [e]; exact True.intro) (.inr ho) (fun b q hb z => (sb.2 b hb).trans z) hd ?_
  refine ⟨by rw [upd_ne O.ne]; exact ho, ?_, O.ne, O'.obj, _, O'.ns, fun g => ?_, fun g hg => ?_⟩
  · have := length_putF f y fs; omega
  · show RelO ((putF f y fs).lookup g) (if g = f then some u else mA g)
    rw [lookup_putF]
    by_cases q : g = f
    · rw [if_pos q, if_pos q]; exact ry
    · rw [if_neg q, if_neg q]; exact r g
  · by_cases q : g = f
    · rw [q]; exact (keys_putF f y fs).1
    · refine (keys_putF f y fs).2 g (wi g fun z => hg ?_)
      show (if g = f then some u else mA g) = none
      rw [if_neg q]; exact z
theorem Inv.made (I : Inv X pins σ H s) : Inv X pins σ (upd (upd H s.heap.objs.size (.own (s.heap.objs.size + 1))) (s.heap.objs.size + 1) (.ins C s.heap.objs.size []))
    { s with heap := (s.heap.push PySem.W.emptyDict).push (PySem.W.instObj C s.heap.objs.size) } := by
  have e1 : (s.heap.push PySem.W.emptyDict).get? s.heap.objs.size = some PySem.W.emptyDict := Heap.get?_push_size s.heap rfl
  have e2 : ((s.heap.push PySem.W.emptyDict).push (PySem.W.instObj C s.heap.objs.size)).get? (s.heap.objs.size + 1) = some (PySem.W.instObj C s.heap.objs.size) := by
    have := Heap.get?_push_size (s.heap.push PySem.W.emptyDict) (o := PySem.W.instObj C s.heap.objs.size) rfl
    rwa [Heap.size_push] at this
  have e3 : (s.heap.push PySem.W.emptyDict).Ns s.heap.objs.size (fun _ => none) := ⟨PySem.W.emptyDict, #[], _, e1, rfl, (fun e he => absurd he (by simp)), fun _ => rfl⟩
  have I1 := I.laid (a := s.heap.objs.size) (o := .own (s.heap.objs.size + 1)) (h' := s.heap.push PySem.W.emptyDict) (t' := s.toks) (fun b u q => Heap.get?_push_of_some _ q) (Nat.le_refl _) ⟨_, e1⟩
  refine I1.laid (a := s.heap.objs.size + 1) (o := .ins C s.heap.objs.size []) (t' := s.toks) (fun b u q => Heap.get?_push_of_some _ q) (Nat.le_of_eq (Heap.size_push _ _)) ?_
  have ne : s.heap.objs.size ≠ s.heap.objs.size + 1 := Nat.ne_of_lt (Nat.lt_succ_self _)
  refine ⟨by rw [upd_ne ne, upd_same], Nat.zero_le _, ne, e2, fun _ => none, (Heap.Ns1.of_empty e3).at fun o q => Heap.get?_push_of_some _ q, fun _ => True.intro, fun y hy => absurd rfl hy⟩
theorem attr_of {prog : Program} {w : World} {env : Env} {e : Expr} {f : Str} {pos : Pos} {s : Shared} {Q : Value → Shared → Prop} (hb : attributeBase e f env (eval e env) = eval e env)
    (h : wpAny (model prog w) A (eval e env) (fun o s₁ => wpAny (model prog w) A (getAttr o f true) Q E s₁) E s) : wpAny (model prog w) A (eval (.Attribute e f pos) env) Q E s :=
  Attribute_any_ h (by rw [arm_eval_Attribute, hb])
end
noncomputable def tFld (K : PySem.W.Frag) (ta : TE) (f : Str) : TE := fun σ H Q => ta σ H fun x H1 => ∃ a C dx fs v, x = .ref a ∧ H1 a = some (.ins C dx fs) ∧ Cls K C ∧ NoAttr K C f ∧ fs.lookup f = some v ∧ Q v H1
noncomputable def sFld (K : PySem.W.Frag) (ta tv : TE) (f : Str) : TS := fun D σ H => tv σ H fun y H1 => ta σ H1 fun x H2 => ∃ a C dx fs, x = .ref a ∧ H2 a = some (.ins C dx fs) ∧ Cls K C ∧ NoAttr K C f ∧ fs.length < 1000 ∧
  D.nx σ (upd H2 a (.ins C dx (putF f y fs)))
section
variable {X : Cx} {o e value : Expr} {f : Str} {pos pos' tpos : Pos} {ta tv : TE}
theorem pe_fld (he : PE X e ta) (hb : attributeBase e f X.env (eval e X.env) = eval e X.env) : PE X (.Attribute e f pos) (tFld X.K ta f) := by
  intro pins s σ H Q I h
  refine attr_of hb (thn (he pins s σ H _ I h) fun u s1 ⟨x, H1, I1, rx, a, C, dx, fs, v, ex, ea, c, n, l, q⟩ => ?_)
  subst ex
  obtain rfl : u = Value.ref a := rx
  exact getattr_ok I1 ea c n l fun u' s2 I2 ru => ⟨v, H1, I2, ru, q⟩
theorem ps_fld (ha : PE X o ta) (hv : PE X value tv) (hs : swapsWith value (some (.Attribute o f pos')) pos.line X.env = pure false) : PS X (.Assign [.Attribute o f pos'] value pos) (sFld X.K ta tv f) := by
  intro pins s σ H D I h
  refine plainObj_wpAny_Assign_Attribute (thn (hv pins s σ H _ I h) fun u s1 ⟨y, H1, I1, ry, q⟩ => thn (ha pins s1 σ H1 _ I1 q) fun ov s2 ⟨x, H2, I2, rx, a, C, dx, fs, ex, ea, c, n, l, q2⟩ => ?_) hs
  subst ex
  obtain rfl : ov = Value.ref a := rx
  exact setattr_ok I2 ea c n l ry fun s3 I3 => ⟨σ, _, I3, q2⟩
end
section
variable {X : Cx} {pins : List (Addr × Obj)} {σ : St} {H : Hp} {s : Shared} {A : Around} {E : Value → Shared → Prop} {Q : Value → Shared → Prop} {c : Value} {b : Bool}
inductive TyOf (K : PySem.W.Frag) (H : Hp) : V → Value → Prop where
  | non : TyOf K H .non (.type "NoneType")
  | bl (x : Bool) : TyOf K H (.bl x) (.type "bool")
  | int (i : Int) : TyOf K H (.int i) (.type "int")
  | str (x : Str) : TyOf K H (.str x) (.type "str")
  | flt (x : UInt64) : TyOf K H (.flt x) (.type "float")
  | lst {a : Addr} {xs : List V} (e : H a = some (.lst xs)) : TyOf K H (.ref a) (.type "list")
  | frz {a : Addr} {o : Obj} {xs : List V} (e : H a = some (.frz o (.lst xs))) : TyOf K H (.ref a) (.type "list")
  | tup {a : Addr} {xs : List V} (e : H a = some (.tup xs)) : TyOf K H (.ref a) (.type "tuple")
  | dK {a : Addr} {kvs : List (Key × V)} (e : H a = some (.dK kvs)) : TyOf K H (.ref a) (.type "dict")
  | dT {a : Addr} {kvs : List (List Key × V)} (e : H a = some (.dT kvs)) : TyOf K H (.ref a) (.type "dict")
  | ins {a C dx : Addr} {fs : List (Str × V)} (e : H a = some (.ins C dx fs)) (cl : Cls K C) (ha : PySem.W.findIn K (.ref C) "__class__" = some (some (.builtin "object.__class__")))
      (hn : PySem.W.specialIn K (.builtin "object.__class__") "__get__" = some (some (.builtin "getset_descriptor.__get__"))) (htk : PySem.W.takesIn K (.builtin "object.__class__") = some true)
      (hm : PySem.W.mroIn K C (.type "object") = some true) : TyOf K H (.ref a) (.ref C)
end
end L2
namespace L2
open PySem PySem.Spec PyProof.Rows
structure Room (k : Nat) (A : Around) : Prop where
  hd : A.handled = none
  dp : A.depth + 3 * k + 5 < recursionLimit
  un : A.units + 16 * k + 200 < cLine
  gd : A.guards = some []
theorem Room.mono {j k : Nat} {A : Around} (r : Room k A) (h : j ≤ k) : Room j A := ⟨r.hd, by have := r.dp; omega, by have := r.un; omega, r.gd⟩
theorem Room.deeper {k : Nat} {A : Around} (r : Room (k + 1) A) (env : Env) : Room k (A.deeper env) :=
  ⟨r.hd, by have := r.dp; show A.depth + 1 + 3 * k + 5 < _; omega, by have := r.un; show A.units + 3 + 16 * k + 200 < _; omega, r.gd⟩
theorem Room.in1 {k : Nat} {A : Around} (r : Room (k + 1) A) : Room k A.in1 :=
  ⟨r.hd, by have := r.dp; show A.depth + 3 * k + 5 < _; omega, by have := r.un; show A.units + 1 + 16 * k + 200 < _; omega, r.gd⟩
theorem make_depth {A : Around} {C : Addr} {us : List Value} {kw : List (Str × Value)} : (A.under (.builtin "type.__call__" ⟨.ref C :: us, kw⟩)).depth = A.depth + 1 := by
  first | rfl | simp [Around.under, Code.weight, Code.isCreation, Code.isGuard, Code.isCaller, Code.frames, Code.isFrame, guardIds]
theorem make_units {A : Around} {C : Addr} {us : List Value} {kw : List (Str × Value)} : (A.under (.builtin "type.__call__" ⟨.ref C :: us, kw⟩)).units = A.units + 1 := by
  first | rfl | simp [Around.under, Code.cUnits, Code.frames, Code.isFrame]
theorem Room.make {k : Nat} {A : Around} (r : Room (k + 1) A) (C : Addr) (us : List Value) (kw : List (Str × Value)) : Room k (A.under (.builtin "type.__call__" ⟨.ref C :: us, kw⟩)) :=
  ⟨r.hd, by have := r.dp; rw [make_depth]; omega, by have := r.un; rw [make_units]; omega, by have := r.gd; simp [Around.under, Code.guards, Code.isGuard, guardIds, pushGuards, this]⟩
theorem Room.depth {k : Nat} {A : Around} (r : Room k A) : A.depth < recursionLimit := by have := r.dp; omega
theorem Room.units {k : Nat} {A : Around} (r : Room k A) : A.units + 64 < cLine := by have := r.un; omega
theorem Room.units0 {k : Nat} {A : Around} (r : Room k A) : A.units < cLine := by have := r.un; omega
noncomputable def tNil : TA := fun _ H Q => Q [] H
noncomputable def tCons (ta : TE) (tr : TA) : TA := fun σ H Q => ta σ H fun x H1 => tr σ H1 fun xs H2 => Q (x :: xs) H2
section
variable {X : Cx} {e : Expr} {es : List Expr} {te : TE} {t : TA} {pos : Pos}
theorem pa_nil : PA X [] tNil := fun _ _ _ _ H Q I h => Calls.spliced_nil ⟨[], H, I, .nil, h⟩
theorem pa_cons (ha : PE X e te) (hr : PA X es t) (hs : starEach (e :: es) X.env = (false, eval e X.env) :: starEach es X.env := by rfl) : PA X (e :: es) (tCons te t) := by
  intro pos pins s σ H Q I h
  rw [hs]
  show wpAny _ _ (spliced ((false, eval e X.env) :: backTo pos (starEach es X.env))) _ _ s
  refine Calls.spliced_cons (thn (ha pins s σ H _ I h) fun u s1 ⟨x, H1, I1, r1, q1⟩ => ?_)
  exact thn (hr pos pins s1 σ H1 _ I1 q1) fun us s2 ⟨xs, H2, I2, r2, q2⟩ => ⟨x :: xs, H2, I2, .cons r1 r2, q2⟩
noncomputable def tTup (t : TA) : TE := fun σ H Q => t σ H fun xs H1 => xs.length ≤ sizeLine ∧ ∀ p, H1 p = none → Q (.ref p) (upd H1 p (.tup xs))
noncomputable def tLst (t : TA) : TE := fun σ H Q => t σ H fun xs H1 => xs.length ≤ sizeLine ∧ ∀ p, H1 p = none → Q (.ref p) (upd H1 p (.lst xs))
theorem pe_tup {x1} (h : PA X es t) : PE X (.Tuple es x1 pos) (tTup t) := by
  intro pins s σ H Q I hq
  refine wpAny_Tuple_spliced (thn (h pos pins s σ H _ I hq) fun us s1 ⟨xs, H1, I1, r, z, q⟩ => ⟨by rw [← r.length]; exact z, ?_⟩)
  have hf : H1 s1.heap.objs.size = none := I1.hok.fresh (Nat.le_refl _)
  refine ⟨.ref s1.heap.objs.size, upd H1 s1.heap.objs.size (.tup xs), I1.laid (t' := s1.toks) (fun b u e => Heap.get?_push_of_some _ e) (Nat.le_refl _) ?_, rfl, q _ hf⟩
  exact ⟨z, us, r, ⟨_, Heap.get?_push_size _ rfl, rfl, _, rfl⟩⟩
theorem pe_lst (h : PA X es t) : PE X (.List es pos) (tLst t) := by
  intro pins s σ H Q I hq
  refine wpAny_List_spliced (thn (h pos pins s σ H _ I hq) fun us s1 ⟨xs, H1, I1, r, z, q⟩ => ⟨by rw [← r.length]; exact z, ?_⟩)
  have hf : H1 s1.heap.objs.size = none := I1.hok.fresh (Nat.le_refl _)
  refine ⟨.ref s1.heap.objs.size, upd H1 s1.heap.objs.size (.lst xs), I1.laid (t' := s1.toks) (fun b u e => Heap.get?_push_of_some _ e) (Nat.le_refl _) ?_, rfl, q _ hf⟩
  exact ⟨z, us, 0, r, Heap.get?_push_size _ rfl⟩
end
noncomputable abbrev Sp := List V → Hp → VK → XK → Prop
noncomputable abbrev CXT := List Env → Hp → Shared → XK → Value → Shared → Prop
structure Env0 (P : Program) (w : World) (K : PySem.W.Frag) (mg : Str → Option Value) (base : Heap) (A : Around) (outer : List Env) (s : Shared) (H : Hp) : Prop where
  frames : A.frames = some outer
  mod : Mod K mg base
  bs : ∀ b o, base.get? b = some o → s.heap.get? b = some o ∧ H b = none
  bsz : base.objs.size ≤ s.heap.objs.size
  funs : s.heap.FunFrames base outer
  frf : ∀ b ∈ frs outer, H b = none
  hok : HOk P w H s.heap
  bare : AllBare s.gens
noncomputable def CE (outer : List Env) (P : Program) (w : World) (H : Hp) (s : Shared) (Q : VK) (u : Value) (s' : Shared) : Prop :=
  ∃ v H', s'.os = s.os ∧ AllBare s'.gens ∧ Un (frs outer) [] H H' s.heap s'.heap ∧ HOk P w H' s'.heap ∧ RelV v u ∧ Q v H'
noncomputable def CR (CX : CXT) (outer : List Env) (P : Program) (w : World) (H : Hp) (s : Shared) (Q : VK) (E : XK) (r : Result) (s' : Shared) : Prop :=
  match r with
  | .ok (.ret u) => CE outer P w H s Q u s'
  | .ok _ => False
  | .error e => CX outer H s E e s'
structure FnOk (P : Program) (w : World) (K : PySem.W.Frag) (mg : Str → Option Value) (base : Heap) (CX : CXT) (k : Nat) (f : Addr) (fd : FuncData) (ps : List Str) (sp : Sp) : Prop where
  len : ∀ vs H Q E, sp vs H Q E → vs.length = ps.length
  run : ∀ (A : Around) (outer : List Env) (s : Shared) (H : Hp) (args : Args) (us : List Value) (vs : List V) (Q : VK) (E : XK), Room k A → Env0 P w K mg base A outer s H → BindsTo s fd args (ps.zip us) → Vals vs us → sp vs H Q E →
    codeAny (model P w) A (.call (.ref f) args) (CR CX outer P w H s Q E) s
theorem FnOk.mono {P : Program} {w : World} {K : PySem.W.Frag} {mg : Str → Option Value} {base : Heap} {CX : CXT} {j k : Nat} {f : Addr} {fd : FuncData} {ps : List Str} {sp : Sp} (F : FnOk P w K mg base CX j f fd ps sp) (h : j ≤ k) :
    FnOk P w K mg base CX k f fd ps sp := ⟨F.len, fun A outer s H args us vs Q E hr => F.run A outer s H args us vs Q E (hr.mono h)⟩
theorem FnOk.imp {P : Program} {w : World} {K : PySem.W.Frag} {mg : Str → Option Value} {base : Heap} {CX : CXT} {k : Nat} {f : Addr} {fd : FuncData} {ps : List Str} {sp sp' : Sp} (F : FnOk P w K mg base CX k f fd ps sp)
    (h : ∀ vs H Q E, sp' vs H Q E → sp vs H Q E) : FnOk P w K mg base CX k f fd ps sp' :=
  ⟨fun vs H Q E q => F.len vs H Q E (h _ _ _ _ q), fun A outer s H args us vs Q E hr he hb hv hs => F.run A outer s H args us vs Q E hr he hb hv (h _ _ _ _ hs)⟩
theorem Env0.make {P : Program} {w : World} {K : PySem.W.Frag} {mg : Str → Option Value} {base : Heap} {A : Around} {outer : List Env} {s : Shared} {H : Hp} (e : Env0 P w K mg base A outer s H) (C : Addr) (us : List Value) (kw : List (Str × Value)) :
    Env0 P w K mg base (A.under (.builtin "type.__call__" ⟨.ref C :: us, kw⟩)) outer s H := ⟨by first | exact e.frames | (simpa [Around.under, Code.envs, Code.isFrame, pushEnvs] using e.frames), e.mod, e.bs, e.bsz, e.funs, e.frf, e.hok, e.bare⟩
theorem Env0.in1 {P : Program} {w : World} {K : PySem.W.Frag} {mg : Str → Option Value} {base : Heap} {A : Around} {outer : List Env} {s : Shared} {H : Hp} (e : Env0 P w K mg base A outer s H) :
    Env0 P w K mg base A.in1 outer s H := ⟨e.frames, e.mod, e.bs, e.bsz, e.funs, e.frf, e.hok, e.bare⟩
section
variable {X : Cx} {pins : List (Addr × Obj)} {σ : St} {H : Hp} {s s' : Shared}
theorem Inv.env0 (I : Inv X pins σ H s) : Env0 X.prog X.w X.K X.mg X.base X.A X.stack s H :=
  ⟨I.ok.frames, I.ok.mod, I.bs, Nat.le_trans I.ok.bsz I.sz, I.stack, I.stkFree, I.hok, I.bare⟩
theorem Inv.after {Q : VK} {u : Value} (I : Inv X pins σ H s) (h : CE X.stack X.prog X.w H s Q u s') : EP X pins σ Q u s' := by
  obtain ⟨v, H', os, bare, un, hok, r, q⟩ := h
  obtain ⟨hh, g, d, t, os'⟩ := s'
  obtain rfl : os' = s.os := os
  exact ⟨v, H', I.call (h' := hh) (g' := g) (d' := d) (t' := t) (ch := []) un hok bare (fun b z => absurd z (by simp)), r, q⟩
end
noncomputable def tCall (sp : Sp) (dvs : List V) (E : XK) (t : TA) : TE := fun σ H Q => t σ H fun vs H1 => sp (vs ++ dvs) H1 Q E
noncomputable def tMeth (C : Addr) (m : Str) (sp : Sp) (dvs : List V) (E : XK) (ta : TE) (t : TA) : TE := fun σ H Q => ta σ H fun x H1 => ∃ a dx fs, x = .ref a ∧ H1 a = some (.ins C dx fs) ∧ fs.lookup m = none ∧
  t σ H1 fun vs H2 => sp (x :: (vs ++ dvs)) H2 Q E
noncomputable def tMake (C : Addr) (sp : Sp) (dvs : List V) (E : XK) (t : TA) : TE := fun σ H Q => t σ H fun vs H1 => ∀ x dx, H1 x = none → H1 dx = none → dx ≠ x →
  sp (.ref x :: (vs ++ dvs)) (upd (upd H1 dx (.own x)) x (.ins C dx [])) (fun v H2 => v = .non ∧ Q (.ref x) H2) E
noncomputable def Binds (K : PySem.W.Frag) (fd : FuncData) (ps : List Str) (ds : List Value) : Prop :=
  ∀ (s : Shared) (us : List Value), K.In s.heap → (us ++ ds).length = ps.length → BindsTo s fd ⟨us, []⟩ (ps.zip (us ++ ds))
theorem Binds.all {K : PySem.W.Frag} {fd : FuncData} {ps : List Str} (h : ∀ us : List Value, us.length = ps.length → bindArgs fd ⟨us, []⟩ = pure (ps.zip us)) : Binds K fd ps [] := fun s us _ hl => by
  rw [List.append_nil] at hl ⊢
  exact .of_eq (h us hl)
noncomputable def Passes (CX : CXT) (X : Cx) (E : XK) : Prop := ∀ (pins : List (Addr × Obj)) (σ : St) (H : Hp) (s : Shared) (e : Value) (s' : Shared), Inv X pins σ H s → CX X.stack H s E e s' → X.xe e s'
section
variable {X : Cx} {CX : CXT} {k : Nat} {f C : Addr} {fd : FuncData} {ps : List Str} {sp : Sp} {dvs : List V} {ds : List Value} {E : XK} {x m : Str} {p pos apos : Pos} {e o : Expr} {es : List Expr} {ta : TE} {t : TA}
theorem run_fn {pins : List (Addr × Obj)} {σ : St} {H : Hp} {s : Shared} {Q : VK} {us : List Value} {vs : List V} (F : FnOk X.prog X.w X.K X.mg X.base CX k f fd ps sp) (hr : Room k X.A) (hb : Binds X.K fd ps ds) (hd : Vals dvs ds) (hx : Passes CX X E)
    (I : Inv X pins σ H s) (r : Vals vs us) (h : sp (vs ++ dvs) H Q E) : wpAny (model X.prog X.w) X.A (call (.ref f) us) (EP X pins σ Q) X.xe s := by
  have r2 : Vals (vs ++ dvs) (us ++ ds) := r.append hd
  have hl : (us ++ ds).length = ps.length := by rw [← r2.length]; exact F.len _ _ _ _ h
  refine wpAny_call (codeAny_mono (F.run X.A X.stack s H ⟨us, []⟩ (us ++ ds) (vs ++ dvs) Q E hr I.env0 (hb s us I.kIn hl) r2 h) fun r s' hq => ?_)
  cases r with
  | error e => exact hx pins σ H s e s' I hq
  | ok fl =>
    cases fl with
    | ret u => exact I.after hq
    | next => exact False.elim hq
    | brk => exact False.elim hq
    | cont => exact False.elim hq
theorem pe_call (F : FnOk X.prog X.w X.K X.mg X.base CX k f fd ps sp) (hr : Room k X.A) (hg : Gl X x) (hm : X.mg x = some (.ref f)) (hk : PySem.W.keepIn X.K (.ref f) = true) (hb : Binds X.K fd ps ds) (hd : Vals dvs ds) (hx : Passes CX X E)
    (ha : PA X (e :: es) t) (hdb : (x == ("__debug__" : Str)) = false := by decide) (he : starEach (e :: es) X.env = (false, eval e X.env) :: starEach es X.env := by rfl) (hpl : (backTo pos (starEach es X.env)).any (·.1) = false := by rfl) :
    PE X (.Call (.Name x p) (e :: es) [] pos) (tCall sp dvs E t) := by
  intro pins s σ H Q I h
  refine wpAny_Call_Name_kw (ld_glob I hg hm ?_ hdb)
  refine PySem.W.callWith_K (h₀ := X.base) I.ok.mod.kin hk (thn (ha pos pins s σ H _ I h) fun us s1 ⟨vs, H1, I1, r, q⟩ => ⟨I1.kIn, ?_⟩) he hpl
  exact run_fn F hr hb hd hx I1 r q
theorem pe_meth {pl : Sem Bool} (he : PE X o ta) (c : Cls X.K C) (hm : Meth X.K C m f) (F : FnOk X.prog X.w X.K X.mg X.base CX k f fd ps sp) (hr : Room k X.A) (hb : Binds X.K fd ps ds) (hd : Vals dvs ds) (hx : Passes CX X E) (ha : PA X (e :: es) t)
    (hst : starEach (e :: es) X.env = (false, eval e X.env) :: starEach es X.env := by rfl) (hpl : (backTo pos (starEach es X.env)).any (·.1) = false := by rfl)
    (ht : eval (.Call (.Attribute o m apos) (e :: es) [] pos) X.env = (do
      let ov ← eval o X.env
      standAt apos.atName
      let (f, first) ← holding [ov] (getMethod ov m pl)
      callWith pos f first (backTo pos (starEach (e :: es) X.env)) (backToKw pos (keywordEach [] X.env))) := by rfl) :
    PE X (.Call (.Attribute o m apos) (e :: es) [] pos) (tMeth C m sp dvs E ta t) := by
  intro pins s σ H Q I h
  refine PySem.W.methodCall_KW (pl := pl) (thn (he pins s σ H _ I h) fun u s1 ⟨x, H1, I1, rx, a, dx, fs, ex, ea, l, q⟩ => ?_) ht
  subst ex
  obtain rfl : u = Value.ref a := rx
  refine getmeth_ok I1 ea c hm l ?_
  refine PySem.W.callWith_K (first := [.ref a]) (h₀ := X.base) I.ok.mod.kin hm.kp (thn (ha pos pins s1 σ H1 _ I1 q) fun us s2 ⟨vs, H2, I2, r, q2⟩ => ⟨I2.kIn, ?_⟩) hst hpl
  exact run_fn (us := .ref a :: us) (vs := .ref a :: vs) F hr hb hd hx I2 (.cons rfl r) q2
theorem pe_meth0 {pl : Sem Bool} (he : PE X o ta) (c : Cls X.K C) (hm : Meth X.K C m f) (F : FnOk X.prog X.w X.K X.mg X.base CX k f fd ps sp) (hr : Room k X.A) (hb : Binds X.K fd ps ds) (hd : Vals dvs ds) (hx : Passes CX X E)
    (ht : eval (.Call (.Attribute o m apos) [] [] pos) X.env = (do
      let ov ← eval o X.env
      standAt apos.atName
      let (f, first) ← holding [ov] (getMethod ov m pl)
      callWith pos f first (backTo pos (starEach [] X.env)) (backToKw pos (keywordEach [] X.env))) := by rfl) :
    PE X (.Call (.Attribute o m apos) [] [] pos) (tMeth C m sp dvs E ta tNil) := by
  intro pins s σ H Q I h
  refine PySem.W.methodCall_KW (pl := pl) (thn (he pins s σ H _ I h) fun u s1 ⟨x, H1, I1, rx, a, dx, fs, ex, ea, l, q⟩ => ?_) ht
  subst ex
  obtain rfl : u = Value.ref a := rx
  refine getmeth_ok I1 ea c hm l ?_
  exact PySem.W.callWith_K0 (first := [.ref a]) I1.kIn hm.kp (run_fn (us := [.ref a]) (vs := [.ref a]) F hr hb hd hx I1 (.cons rfl .nil) q)
structure Mk (K : PySem.W.Frag) (C f : Addr) : Prop where
  makes : PySem.W.makesIn K C = true
  init : PySem.W.findIn K (.ref C) "__init__" = some (some (.ref f))
  fn : PySem.W.isFn K (.ref f) = true
  kp : PySem.W.keepIn K (.ref C) = true
theorem run_make {pins : List (Addr × Obj)} {σ : St} {H : Hp} {s : Shared} {Q : VK} {us : List Value} {vs : List V} (M : Mk X.K C f) (F : FnOk X.prog X.w X.K X.mg X.base CX k f fd ps sp) (hr : Room (k + 1) X.A) (hb : Binds X.K fd ps ds) (hd : Vals dvs ds)
    (hx : Passes CX X E) (I : Inv X pins σ H s) (r : Vals vs us)
    (h : ∀ x dx, H x = none → H dx = none → dx ≠ x → sp (.ref x :: (vs ++ dvs)) (upd (upd H dx (.own x)) x (.ins C dx [])) (fun v H2 => v = .non ∧ Q (.ref x) H2) E) :
    wpAny (model X.prog X.w) X.A (call (.ref C) us) (EP X pins σ Q) X.xe s := by
  have hq := h (s.heap.objs.size + 1) s.heap.objs.size (I.hok.fresh (Nat.le_succ _)) (I.hok.fresh (Nat.le_refl _)) (Nat.ne_of_lt (Nat.lt_succ_self _))
  have I2 := Inv.made (C := C) I
  have r2 : Vals (V.ref (s.heap.objs.size + 1) :: (vs ++ dvs)) (Value.ref (s.heap.objs.size + 1) :: (us ++ ds)) := .cons rfl (r.append hd)
  have hl : (Value.ref (s.heap.objs.size + 1) :: us ++ ds).length = ps.length := by
    have e := r2.length
    rw [F.len _ _ _ _ hq] at e
    exact e.symm
  refine wpAny_call (make_map (f := f) I.kIn M.makes M.init (beq_iff_eq.mp M.fn) (codeAny_mono (F.run _ X.stack _ _ ⟨Value.ref (s.heap.objs.size + 1) :: us, []⟩ (Value.ref (s.heap.objs.size + 1) :: (us ++ ds)) _ _ E (hr.make C us [])
    (I2.env0.make C us []) (hb _ (Value.ref (s.heap.objs.size + 1) :: us) I2.kIn hl) r2 hq) fun r s' hq' => ?_))
  cases r with
  | error e => exact hx pins σ _ _ e s' I2 hq'
  | ok fl =>
    cases fl with
    | ret u =>
      obtain ⟨v, H', I3, rv, ev, q3⟩ := I2.after hq'
      subst ev
      exact ⟨rv, ⟨V.ref (s.heap.objs.size + 1), H', I3, rfl, q3⟩⟩
    | next => exact False.elim hq'
    | brk => exact False.elim hq'
    | cont => exact False.elim hq'
theorem pe_make0 (M : Mk X.K C f) (F : FnOk X.prog X.w X.K X.mg X.base CX k f fd ps sp) (hr : Room (k + 1) X.A) (hg : Gl X x) (hm : X.mg x = some (.ref C)) (hb : Binds X.K fd ps ds) (hd : Vals dvs ds) (hx : Passes CX X E)
    (hdb : (x == ("__debug__" : Str)) = false := by decide) : PE X (.Call (.Name x p) [] [] pos) (tMake C sp dvs E tNil) := by
  intro pins s σ H Q I h
  refine wpAny_Call_Name_kw (ld_glob I hg hm ?_ hdb)
  exact PySem.W.callWith_K0 I.kIn M.kp (run_make (us := []) M F hr hb hd hx I .nil h)
end
section
variable {X : Cx} {CX : CXT} {k : Nat} {f C : Addr} {fd : FuncData} {ps ks : List Str} {sp : Sp} {E : XK} {x m : Str} {p pos apos kpos : Pos} {e o : Expr} {es : List Expr} {kws : List Keyword} {te ta : TE} {t tk : TA} {nm : Option Str}
structure KBinds (K : PySem.W.Frag) (fd : FuncData) (ps ks : List Str) (g : List Value → List Value → List Value) (gV : List V → List V → List V) : Prop where
  to : ∀ (s : Shared) (us ws : List Value), K.In s.heap → (g us ws).length = ps.length → BindsTo s fd ⟨us, ks.zip ws⟩ (ps.zip (g us ws))
  rel : ∀ {vs : List V} {us : List Value} {zs : List V} {ws : List Value}, Vals vs us → Vals zs ws → Vals (gV vs zs) (g us ws)
variable {g : List Value → List Value → List Value} {gV : List V → List V → List V}
end
structure FnScope (N P : List Str) (sc : Scope) : Prop where
  kind : sc.kind = .function
  co : sc.isCoroutine = false
  gen : sc.isGenerator = false
  nd : N.Nodup
  pre : N.take P.length = P
  par : ∀ x ∈ P, sc.names.lookup x = some .local ∨ sc.names.lookup x = some .cell
  nofree : ∀ y ∈ sc.names, y.2 ≠ .free
theorem bindL_out {kindOf : Str → Option NameKind} {x : Str} : ∀ {binds : List (Str × Value)} {m : Str → Option Value}, (∀ v, (x, v) ∉ binds) → bindL kindOf binds m x = m x
  | [], _, _ => rfl
  | (n, v) :: r, m, h => by
    unfold bindL
    rw [bindL_out fun w hw => h w (List.mem_cons_of_mem _ hw)]
    split
    · have : x ≠ n := by rintro rfl; exact h v List.mem_cons_self
      simp [this]
    · rfl
theorem bindC_out {kindOf : Str → Option NameKind} {x : Str} : ∀ {binds : List (Str × Value)} {m : Str → Option Value}, (∀ v, (x, v) ∉ binds) → bindC kindOf binds m x = m x
  | [], _, _ => rfl
  | (n, v) :: r, m, h => by
    unfold bindC
    rw [bindC_out fun w hw => h w (List.mem_cons_of_mem _ hw)]
    split
    · rfl
    · have : x ≠ n := by rintro rfl; exact h v List.mem_cons_self
      simp [this]
theorem bindL_get {kindOf : Str → Option NameKind} {x : Str} {v : Value} : ∀ {P : List Str} {vs : List Value} {i : Nat} {m : Str → Option Value}, P.Nodup → P[i]? = some x → vs[i]? = some v → kindOf x = some .local →
    bindL kindOf (P.zip vs) m x = some v
  | [], _, _, _, _, h, _, _ => by simp at h
  | _ :: _, [], _, _, _, _, h, _ => by simp at h
  | p :: P, w :: vs, 0, m, nd, h1, h2, hk => by
    simp at h1 h2; subst h1; subst h2
    show bindL kindOf ((p, w) :: P.zip vs) m p = _
    unfold bindL
    rw [bindL_out fun v hv => (List.nodup_cons.mp nd).1 (List.of_mem_zip hv).1, if_pos hk]
    simp
  | p :: P, w :: vs, i + 1, m, nd, h1, h2, hk => by
    show bindL kindOf ((p, w) :: P.zip vs) m x = _
    unfold bindL
    exact bindL_get (i := i) (List.nodup_cons.mp nd).2 (by simpa using h1) (by simpa using h2) hk
theorem bindC_get {kindOf : Str → Option NameKind} {x : Str} {v : Value} : ∀ {P : List Str} {vs : List Value} {i : Nat} {m : Str → Option Value}, P.Nodup → P[i]? = some x → vs[i]? = some v → kindOf x ≠ some .local →
    bindC kindOf (P.zip vs) m x = some v
  | [], _, _, _, _, h, _, _ => by simp at h
  | _ :: _, [], _, _, _, _, h, _ => by simp at h
  | p :: P, w :: vs, 0, m, nd, h1, h2, hk => by
    simp at h1 h2; subst h1; subst h2
    show bindC kindOf ((p, w) :: P.zip vs) m p = _
    unfold bindC
    rw [bindC_out fun v hv => (List.nodup_cons.mp nd).1 (List.of_mem_zip hv).1, if_neg hk]
    simp
  | p :: P, w :: vs, i + 1, m, nd, h1, h2, hk => by
    show bindC kindOf ((p, w) :: P.zip vs) m x = _
    unfold bindC
    exact bindC_get (i := i) (List.nodup_cons.mp nd).2 (by simpa using h1) (by simpa using h2) hk
noncomputable def start (N : List Str) (vs : List V) : St := vs.map some ++ List.replicate (N.length - vs.length) none
noncomputable def cxOf (CX : CXT) (P : Program) (w : World) (K : PySem.W.Frag) (mg : Str → Option Value) (base : Heap) (N : List Str) (qual : Str) (scope : Scope) (f : Addr) (cd : Value) (A : Around) (outer : List Env) (s : Shared) (H : Hp) (E : XK) : Cx where
  prog := P
  w := w
  K := K
  mg := mg
  base := base
  A := A.deeper (envOfC qual scope s.heap.objs.size f cd)
  N := N
  s₀ := s
  H₀ := H
  env := envOfC qual scope s.heap.objs.size f cd
  outer := outer
  stack := envOfC qual scope s.heap.objs.size f cd :: outer
  ex := []
  calm := true
  fn := fun _ => true
  pn := []
  xe := fun e s' => wpAny (model P w) (A.deeper (envOfC qual scope s.heap.objs.size f cd)) (leaving (envOfC qual scope s.heap.objs.size f cd) e) (fun _ s'' => CX outer H s E e s'') (fun e' s'' => CX outer H s E e' s'') s'
theorem cell_has {sc : Scope} {n : Nat} {x : Str} (h : sc.names.lookup x = some .cell) : ∃ c, (cellsFrom n sc.names []).lookup x = some c := by
  have q := PySem.W.cellsFrom_some sc.names n [] (.inl h)
  exact Option.isSome_iff_exists.mp q
theorem inv_start {CX : CXT} {P : Program} {w : World} {K : PySem.W.Frag} {mg : Str → Option Value} {base : Heap} {N ps : List Str} {qual : Str} {scope : Scope} {f : Addr} {cd : Value} {A : Around} {outer : List Env} {s s1 : Shared} {H : Hp} {E : XK} {us : List Value} {vs : List V}
    (S : FnScope N ps scope) (hd : A.handled = none) (e0 : Env0 P w K mg base A outer s H) (hl : vs.length = ps.length) (r : Vals vs us)
    (x : InCallC s s.heap.objs.size (bindL (envOfC qual scope s.heap.objs.size f cd).kindOf (ps.zip us) fun _ => none) (cellsFrom (s.heap.objs.size + 1) scope.names []) (bindC (envOfC qual scope s.heap.objs.size f cd).kindOf (ps.zip us) fun _ => none) s1) :
    Inv (cxOf CX P w K mg base N qual scope f cd A outer s H E) [] (start N vs) H s1 := by
  have hpl : ps.length ≤ N.length := by have := congrArg List.length S.pre; rw [List.length_take] at this; omega
  obtain ⟨h1, tk, rfl, hk⟩ := x.done
  have noA : ∀ b : Addr, b ∉ (cxOf CX P w K mg base N qual scope f cd A outer s H E).ex := fun b z => absurd (show b ∈ ([] : List Addr) from z) (by simp)
  refine ⟨⟨e0.mod, S.kind, rfl, rfl, Nat.le_refl _, fun y z c h1 h2 => ?_, fun y hy => ?_, fun y c _ h => ?_, fun _ => hd, Around.frames_deeper e0.frames, .inr ⟨rfl, rfl⟩, fun b z => absurd z (noA b), e0.bs, e0.bsz, fun b _ _ => noA b, fun b z => absurd z (noA b), e0.funs, e0.frf⟩,
    rfl, e0.bare, Un.kept hk, ⟨_, x.toInCall.ns, fun i y v h1 h2 h3 => ?_⟩, fun y c h => ⟨_, x.cell y c h⟩, e0.hok.fresh (Nat.le_refl _), fun y c h => ?_, fun p hp => absurd (show p ∈ ([] : List (Addr × Obj)) from hp) (by simp), e0.hok.kept hk, ?_⟩
  · exact name_of_addr x.apart (PySem.mem_of_lookup h1) (PySem.mem_of_lookup h2)
  · have hy : scope.names.lookup y = some .cell ∨ scope.names.lookup y = some .free := hy
    rcases hy with hy | hy
    · exact cell_has hy
    · exact absurd rfl (S.nofree _ (PySem.mem_of_lookup hy))
  · exact Nat.le_of_lt (x.above y c (PySem.mem_of_lookup h))
  · have hi : i < vs.length := by
      unfold start at h2
      by_cases hi : i < vs.length
      · exact hi
      · rw [List.getElem?_append_right (by simpa using hi)] at h2
        rw [List.getElem?_replicate] at h2
        split at h2 <;> cases h2
    have ha : vs[i]? = some v := by
      unfold start at h2
      rw [List.getElem?_append_left (by simpa using hi), List.getElem?_map] at h2
      cases e : vs[i]? with
      | none => rw [e] at h2; cases h2
      | some a => rw [e] at h2; cases h2; rfl
    obtain ⟨u, hu, rv⟩ := r.get ha
    have hp : ps[i]? = some y := by
      rw [← S.pre, List.getElem?_take_of_lt (by omega)]; exact h1
    have ndP : ps.Nodup := by rw [← S.pre]; exact S.nd.sublist (List.take_sublist _ _)
    refine ⟨u, rv, ?_⟩
    rcases S.par y (List.mem_of_getElem? hp) with k | k
    · exact .inl ⟨k, bindL_get ndP hp hu k⟩
    · obtain ⟨c, e⟩ := cell_has (n := s.heap.objs.size + 1) k
      refine .inr ⟨.inl k, c, e, ?_⟩
      have q := x.cell y c e
      rw [bindC_get ndP hp hu (by show scope.names.lookup y ≠ _; rw [k]; decide)] at q
      exact q
  · exact e0.hok.fresh (Nat.le_of_lt (x.above y c (PySem.mem_of_lookup h)))
  · unfold start
    show _ = N.length
    rw [List.length_append, List.length_map, List.length_replicate]
    omega
theorem fn_of {CX : CXT} {P : Program} {w : World} {K : PySem.W.Frag} {mg : Str → Option Value} {base : Heap} {k : Nat} {f : Addr} {name qual : Str} {params : Arguments} {body : List Stmt} {scope : Scope} {dV kV doc pm cdv ct oc : Value} {an od : Option Addr}
    {osl : Array (Option Value)} {N ps : List Str} {sp : Sp} (lk : K.lookup f = some ⟨oc, od, .func (PySem.W.fnOf name qual params body scope dV kV doc pm an cdv ct), osl⟩) (hcd : PySem.W.codeIn K cdv qual = true) (S : FnScope N ps scope)
    (len : ∀ vs H Q E, sp vs H Q E → vs.length = ps.length)
    (hbody : ∀ (A : Around) (outer : List Env) (s : Shared) (H : Hp) (vs : List V) (Q : VK) (E : XK), Room k (A.deeper (envOfC qual scope s.heap.objs.size f cdv)) → sp vs H Q E →
      ∃ t, PSs (cxOf CX P w K mg base N qual scope f cdv A outer s H E) body t ∧ t { nx := fun _ H' => Q .non H', rt := Q } (start N vs) H) :
    FnOk P w K mg base CX (k + 1) f (PySem.W.fnOf name qual params body scope dV kV doc pm an cdv ct) ps sp := by
  refine ⟨len, fun A outer s H args us vs Q E hr e0 hb r hsp => ?_⟩
  have hl := len _ _ _ _ hsp
  have KX : K.In s.heap := e0.mod.kin.keeps fun b o e => (e0.bs b o e).1
  have lim : s.heap.NoLimit := e0.mod.nolimit.keeps fun b o e => (e0.bs b o e).1
  have hkind : ∀ y ∈ ps.zip us, scope.names.lookup y.1 = some .local ∨ (scope.names.lookup y.1 = some .cell ∧ ((cellsFrom (s.heap.objs.size + 1) scope.names []).lookup y.1).isSome = true) := fun ⟨n, v⟩ hy => by
    rcases S.par n (List.of_mem_zip hy).1 with q | q
    · exact .inl q
    · exact .inr ⟨q, PySem.W.cellsFrom_some _ _ _ (.inl q)⟩
  refine codeAny_call_function hr.depth (KX _ _ lk) rfl S.co S.gen rfl (PySem.W.codeRec_of KX hcd) (hb _ _ _ _ ?_)
  refine wpAny_newFunctionEnv_cells S.kind hkind fun env he s1 x => ?_
  subst he
  refine ⟨lim.keeps x.toInCall.keep, codeAny_func ?_⟩
  obtain ⟨t, ht, hq⟩ := hbody A outer s H vs Q E (hr.deeper _) hsp
  have I : Inv (cxOf CX P w K mg base N qual scope f cdv A outer s H E) [] (start N vs) H s1 := inv_start S hr.hd e0 hl r x
  refine wpAny_mono (ht [] s1 (start N vs) H _ I hq) (fun fl s' hs => ?_) fun e s' hs => hs
  have fin : ∀ {σ' : St} {H' : Hp} {v : V} {u : Value}, Inv (cxOf CX P w K mg base N qual scope f cdv A outer s H E) [] σ' H' s' → RelV v u → Q v H' → CE outer P w H s Q u s' :=
    fun {σ' H' v u} J rv q => ⟨v, H', J.os, J.bare, J.base, J.hok, rv, q⟩
  cases fl with
  | ret u =>
    obtain ⟨v, σ', H', J, rv, q⟩ := hs
    exact fin J rv q
  | next =>
    obtain ⟨σ', H', J, q⟩ := hs
    exact fin (v := V.non) (u := Value.none) J rfl q
  | brk =>
    obtain ⟨_, _, _, q⟩ := hs
    exact False.elim q
  | cont =>
    obtain ⟨_, _, _, q⟩ := hs
    exact False.elim q
end L2
namespace L2
open PySem PySem.Spec PyProof.Rows
section
variable {X : Cx} {x : Str} {p pos : Pos} {e : Expr} {es : List Expr} {t : TA} {id T : String} {r : List V → Hp → VK → Prop}
noncomputable def tCB (r : List V → Hp → VK → Prop) (t : TA) : TE := fun σ H Q => t σ H fun vs H1 => r vs H1 Q
theorem pe_callB (hc : CallR X (.builtin id) r) (hg : Gl X x) (hm : X.mg x = none) (hv : bootBuiltins x = some (.builtin id)) (ha : PA X (e :: es) t) (hn : x ≠ "__name__" := by decide) (hdb : (x == ("__debug__" : Str)) = false := by decide)
    (he : starEach (e :: es) X.env = (false, eval e X.env) :: starEach es X.env := by rfl) (hpl : (backTo pos (starEach es X.env)).any (·.1) = false := by rfl) : PE X (.Call (.Name x p) (e :: es) [] pos) (tCB r t) := by
  intro pins s σ H Q I h
  refine wpAny_Call_Name_kw (ld_blt I hg hm hv ?_ hn hdb)
  exact PyProof.Rows.callWith_builtin1 (thn (ha pos pins s σ H _ I h) fun us s1 ⟨vs, H1, I1, r1, q1⟩ => hc pins s1 σ H1 vs us Q I1 r1 q1) he hpl
theorem pe_callTy (hc : CallR X (.type T) r) (hg : Gl X x) (hm : X.mg x = none) (hv : bootBuiltins x = some (.type T)) (ha : PA X (e :: es) t) (hn : x ≠ "__name__" := by decide) (hdb : (x == ("__debug__" : Str)) = false := by decide)
    (he : starEach (e :: es) X.env = (false, eval e X.env) :: starEach es X.env := by rfl) (hpl : (backTo pos (starEach es X.env)).any (·.1) = false := by rfl) : PE X (.Call (.Name x p) (e :: es) [] pos) (tCB r t) := by
  intro pins s σ H Q I h
  refine wpAny_Call_Name_kw (ld_blt I hg hm hv ?_ hn hdb)
  exact PyProof.Rows.callWith_type1 (thn (ha pos pins s σ H _ I h) fun us s1 ⟨vs, H1, I1, r1, q1⟩ => hc pins s1 σ H1 vs us Q I1 r1 q1) he hpl
end
end L2
namespace HT
open PySem PyProof.Rows
section
open PySem.SeqAt
open PySem.AutoSeq1 (wpAny_loadPart')
open PySem.MeetsSeq PySem.MeetsSeq2 PySem.MeetsSeq3
end
section
variable {prog : Program} {w : World} {A : Around} {E : Value → Shared → Prop} {s : Shared}
theorem cat_tup {t b : Addr} {vs ws : List Value} {Q : Value → Shared → Prop} (ht : IsTup s.heap t vs.toArray) (hb : IsTup s.heap b ws.toArray) (hv : vs ≠ [])
    (h1 : ws = [] → Q (.ref t) s) (h2 : ws ≠ [] → Q (.ref s.heap.objs.size) { s with heap := s.heap.push { cls := .type "tuple", data := .seq (vs ++ ws).toArray } })
    (hsz : vs.length + ws.length ≤ sizeLine) : wpAny (model prog w) A (binaryOp .Add (.ref t) (.ref b)) Q E s := by
  obtain ⟨⟨cls, dd, data, sl⟩, ho, hc, n, hd⟩ := id ht
  obtain ⟨⟨cls2, dd2, data2, sl2⟩, ho2, hc2, n2, hd2⟩ := id hb
  simp only at hc hd hc2 hd2
  subst hc hd hc2 hd2
  have e : vs.toArray ++ ws.toArray = (vs ++ ws).toArray := by simp
  by_cases hw : ws = []
  · exact concat_meets ⟨_, ho, rfl⟩ ⟨_, ho2, rfl⟩ noFill_tuple_add seq_tuple_add PySem.F.slot_tuple_add PySem.F.entry_tuple_add (PySem.F.args_tuple_add_2 _ _)
      (tuple_addW1 t b vs.toArray ws.toArray n n2 dd dd2 sl sl2 (by simpa using hv) (by simp [hw])) ⟨ho, ho2, h1 hw⟩
  · refine concat_meets ⟨_, ho, rfl⟩ ⟨_, ho2, rfl⟩ noFill_tuple_add seq_tuple_add PySem.F.slot_tuple_add PySem.F.entry_tuple_add (PySem.F.args_tuple_add_2 _ _)
      (tuple_addW2 t b vs.toArray ws.toArray n n2 dd dd2 sl sl2 (by simpa using hv) (by simpa using hw) (by rw [List.size_toArray, List.size_toArray]; exact hsz)) ⟨ho, ho2, ?_⟩
    rw [e]
    exact h2 hw
noncomputable def sIx (n d : Nat) : Option Int → Nat
  | none => d
  | some v => if v < 0 then (v + (n : Int)).toNat else min v.toNat n
end
end HT
namespace L2
open PySem PySem.Spec PyProof.Rows
noncomputable abbrev TO := St → Hp → (Option Int → Hp → Prop) → Prop
section
variable {X : Cx} {e : Expr} {te : TE} {lo hi : Option Expr} {tl th : TO} {pos p2 : Pos}
noncomputable def SlR (X : Cx) (r : V → Option Int → Option Int → Hp → VK → Prop) : Prop :=
  ∀ (pins : List (Addr × Obj)) (s : Shared) (σ : St) (H : Hp) (x : V) (v vl vu : Value) (lo hi : Option Int) (sl : Addr) (Q : VK), Inv X pins σ H s → RelV x v → s.heap.IsSliceOf sl vl vu .none → IsPart vl lo → IsPart vu hi → r x lo hi H Q →
    ∃ T id, typeLookup (.type T) "__getitem__" = pure (some (.builtin id)) ∧ s.TypeIs v T ∧ wpAny (model X.prog X.w) X.A (getItem v (.ref sl)) (EP X pins σ Q) X.xe s
theorem SlR.or {r r' : V → Option Int → Option Int → Hp → VK → Prop} (h : SlR X r) (h' : SlR X r') : SlR X (fun x lo hi H Q => r x lo hi H Q ∨ r' x lo hi H Q) := by
  intro pins s σ H x v vl vu lo hi sl Q I rx hs pl pu q
  rcases q with q | q
  · exact h pins s σ H x v vl vu lo hi sl Q I rx hs pl pu q
  · exact h' pins s σ H x v vl vu lo hi sl Q I rx hs pl pu q
noncomputable def rCatT (K : PySem.W.Frag) : R2 := fun x y H Q => ∃ a b xs ys, x = .ref a ∧ y = .ref b ∧ SqT K H a xs ∧ SqT K H b ys ∧ xs ≠ [] ∧ xs.length + ys.length ≤ sizeLine ∧
  (ys = [] → Q (.ref a) H) ∧ (ys ≠ [] → ∀ p, H p = none → Q (.ref p) (upd H p (.tup (xs ++ ys))))
theorem Vals.nil_iff {xs : List V} {us : List Value} (r : Vals xs us) : us = [] ↔ xs = [] := by
  cases r with
  | nil => simp
  | cons _ _ => simp
theorem op_catT : OpR X (binaryOp .Add) (rCatT X.K) := by
  intro pins s σ H x y v u Q I rx ry h
  obtain ⟨a, b, xs, ys, rfl, rfl, ha, hb, hx, hz, q1, q2⟩ := h
  cases rx
  cases ry
  obtain ⟨its, r1, p1, _⟩ := I.tuple ha
  obtain ⟨its2, r2, p2, _⟩ := I.tuple hb
  refine HT.cat_tup p1 p2 (fun z => hx (r1.nil_iff.mp z)) (fun z => ⟨.ref a, H, I, rfl, q1 (r2.nil_iff.mp z)⟩) (fun z => ?_) (by rw [← r1.length, ← r2.length]; exact hz)
  refine ⟨.ref s.heap.objs.size, _, I.laid (t' := s.toks) (o := .tup (xs ++ ys)) (fun b ob q => Heap.get?_push_of_some _ q) (Nat.le_refl _) ?_, rfl, q2 (fun w => z (r2.nil_iff.mpr w)) _ (I.hok.fresh (Nat.le_refl _))⟩
  exact ⟨by rw [List.length_append]; exact hz, _, r1.append r2, IsTup.new _ _⟩
end
end L2
namespace L2
open PySem PySem.Spec PyProof.Rows
noncomputable def ixN (n : Nat) (i : Int) : Option Nat := if 0 ≤ i then (if i < n then some i.toNat else none) else if -(n : Int) ≤ i then some (i + n).toNat else none
noncomputable def atI {α : Type} (xs : List α) (i : Int) : Option α := (ixN xs.length i).bind fun j => xs[j]?
theorem ixN_seq {n : Nat} {i : Int} {j : Nat} (h : ixN n i = some j) : seqIndex? i n = some j ∧ j < n ∧ -(n : Int) ≤ i ∧ i < n := by
  unfold ixN at h
  by_cases h0 : 0 ≤ i
  · rw [if_pos h0] at h
    by_cases h1 : i < n
    · rw [if_pos h1] at h
      have e : i.toNat = j := Option.some.inj h
      exact ⟨by rw [seqIndex_of h0 h1, e], by omega, by omega, h1⟩
    · rw [if_neg h1] at h; cases h
  · rw [if_neg h0] at h
    by_cases h1 : -(n : Int) ≤ i
    · rw [if_pos h1] at h
      have e : (i + n).toNat = j := Option.some.inj h
      exact ⟨by rw [seqIndex_neg (by omega) h1, e], by omega, h1, by omega⟩
    · rw [if_neg h1] at h; cases h
theorem atI_get {α : Type} {xs : List α} {i : Int} {v : α} (h : atI xs i = some v) : ∃ j, seqIndex? i xs.length = some j ∧ xs[j]? = some v ∧ j < xs.length ∧ -(xs.length : Int) ≤ i ∧ i < xs.length := by
  unfold atI at h
  cases e : ixN xs.length i with
  | none => rw [e] at h; cases h
  | some j =>
    rw [e] at h
    obtain ⟨h1, h2, h3, h4⟩ := ixN_seq e
    exact ⟨j, h1, h, h2, h3, h4⟩
noncomputable def PlainIx (b : Expr) : Prop := ∀ o i, subscripted b false o i = operate [o, i] (getItem o i)
noncomputable def IxR (X : Cx) (r : R2) : Prop :=
  ∀ (value slice : Expr) (pins : List (Addr × Obj)) (s : Shared) (σ : St) (H : Hp) (x y : V) (v u : Value) (Q : VK), Inv X pins σ H s → RelV x v → RelV y u → r x y H Q →
    subscripted slice false v u = operate [v, u] (getItem v u) → wpAny (model X.prog X.w) X.A (subscriptTail value slice v u) (EP X pins σ Q) X.xe s
noncomputable def MtR (X : Cx) (id : String) (r : V → List V → Hp → VK → Prop) : Prop :=
  ∀ (pins : List (Addr × Obj)) (s : Shared) (σ : St) (H : Hp) (x : V) (xs : List V) (v : Value) (us : List Value) (Q : VK), Inv X pins σ H s → RelV x v → Vals xs us → r x xs H Q →
    wpAny (model X.prog X.w) X.A (call (.builtin id) (v :: us)) (EP X pins σ Q) X.xe s
section
variable {X : Cx} {a b : Expr} {ta tb : TE} {pos : Pos}
theorem IxR.or {r r' : R2} (h : IxR X r) (h' : IxR X r') : IxR X (fun x y H Q => r x y H Q ∨ r' x y H Q) := by
  intro value slice pins s σ H x y v u Q I rx ry q hs
  rcases q with q | q
  · exact h value slice pins s σ H x y v u Q I rx ry q hs
  · exact h' value slice pins s σ H x y v u Q I rx ry q hs
theorem MtR.or {id : String} {r r' : V → List V → Hp → VK → Prop} (h : MtR X id r) (h' : MtR X id r') : MtR X id (fun x xs H Q => r x xs H Q ∨ r' x xs H Q) := by
  intro pins s σ H x xs v us Q I rx rs q
  rcases q with q | q
  · exact h pins s σ H x xs v us Q I rx rs q
  · exact h' pins s σ H x xs v us Q I rx rs q
theorem pe_ix {r : R2} (hr : IxR X r) (ha : PE X a ta) (hb : PE X b tb) (hs : PlainIx b) : PE X (.Subscript a b pos) (tOp r ta tb) := by
  intro pins s σ H Q I h
  exact Subscript_ (binT ha hb I h fun v u s2 x y H2 I2 rx ry q => hr a b pins s2 σ H2 x y v u Q I2 rx ry q (hs _ _))
noncomputable def rIxL (K : PySem.W.Frag) : R2 := fun x y H Q => ∃ p xs i v, x = .ref p ∧ y = .int i ∧ SqL K H p xs ∧ atI xs i = some v ∧ Q v H
noncomputable def rIxT (K : PySem.W.Frag) : R2 := fun x y H Q => ∃ p xs i v, x = .ref p ∧ y = .int i ∧ SqT K H p xs ∧ atI xs i = some v ∧ Q v H
noncomputable def rIxS : R2 := fun x y H Q => ∃ z i c, x = .str z ∧ y = .int i ∧ z.length ≤ sizeLine ∧ atI z.cps.toList i = some c ∧ Q (.str ⟨#[c]⟩) H
theorem ix_list : IxR X (rIxL X.K) := by
  intro value slice pins s σ H x y v u Q I rx ry h hs
  obtain ⟨p, xs, i, z, rfl, rfl, hq, he, q⟩ := h
  cases rx
  obtain ⟨t, rfl⟩ := ry
  obtain ⟨its, r, pl, hz⟩ := I.list hq
  obtain ⟨j, h1, h2, h3, h4, h5⟩ := atI_get he
  obtain ⟨w, ew, rw'⟩ := r.get h2
  have hl := r.length
  have hn := line63
  have fin : EP X pins σ Q w s := ⟨z, H, I, rw', q⟩
  by_cases h0 : 0 ≤ i
  · have hj : i.toNat = j := by
      rw [seqIndex_of h0 h5] at h1
      exact Option.some.inj h1
    exact item_listR pl.isList h0 (by omega) (by rw [hj]; simpa using ew) fin hs
  · have hj : (i + (its.toArray.size : Int)).toNat = j := by
      rw [seqIndex_neg (by omega) h4] at h1
      rw [List.size_toArray, ← hl]
      exact Option.some.inj h1
    exact subscriptTail_builtinR (x := w) pl.isList.typeIs slot_list_getitem.lookup
      (wpAny_getItem_list_neg (Q := fun r s' => r = w ∧ EP X pins σ Q r s') pl.isList (by omega) (by rw [List.size_toArray] <;> omega) (by omega) (by rw [hj]; simpa using ew) ⟨rfl, fin⟩) hs
theorem ix_tup : IxR X (rIxT X.K) := by
  intro value slice pins s σ H x y v u Q I rx ry h hs
  obtain ⟨p, xs, i, z, rfl, rfl, hq, he, q⟩ := h
  cases rx
  obtain ⟨t, rfl⟩ := ry
  obtain ⟨its, r, pl, hz⟩ := I.tuple hq
  obtain ⟨j, h1, h2, h3, h4, h5⟩ := atI_get he
  obtain ⟨w, ew, rw'⟩ := r.get h2
  have hl := r.length
  have hn := line63
  have fin : EP X pins σ Q w s := ⟨z, H, I, rw', q⟩
  exact subscriptTail_builtinR (x := w) pl.typeIs slot_tuple_getitem.lookup
    (getItem_tuple (j := j) (Q := fun r s' => r = w ∧ EP X pins σ Q r s') pl (by omega) (by omega) (by rw [List.size_toArray, ← hl]; exact h1) (by simpa using ew) ⟨rfl, fin⟩) hs
theorem ix_str : IxR X rIxS := by
  intro value slice pins s σ H x y v u Q I rx ry h hs
  obtain ⟨z, i, c, rfl, rfl, hz, he, q⟩ := h
  obtain ⟨t, rfl⟩ := rx
  obtain ⟨t', rfl⟩ := ry
  obtain ⟨j, h1, h2, h3, h4, h5⟩ := atI_get he
  have hl : z.cps.toList.length = z.length := by simp [Str.length]
  rw [hl] at h1 h4 h5
  have hn := line63
  exact tail_any (typeIs_str s z t) slot_str_getitem.lookup (getItem_str (c := c) (by
    have e1 : decide (i < -(2 ^ 63 : Int)) = false := decide_eq_false (by omega)
    have e2 : decide (i ≥ 2 ^ 63) = false := decide_eq_false (by omega)
    rw [e1, e2, Bool.or_false]) (by rw [h1]; simpa using h2) ⟨.str ⟨#[c]⟩, H, I.tok _, ⟨_, rfl⟩, q⟩) hs
noncomputable def rIx (K : PySem.W.Frag) : R2 := fun x y H Q => rIxL K x y H Q ∨ rIxT K x y H Q ∨ rIxS x y H Q
theorem ix_seq : IxR X (rIx X.K) := ix_list.or (ix_tup.or ix_str)
theorem mapSeq_set (its : List Value) (n j : Nat) (u : Value) : Obj.mapSeq (·.setIfInBounds j u) { cls := .type "list", data := .seq its.toArray n } = { cls := .type "list", data := .seq (its.set j u).toArray n } := by
  simp [Obj.mapSeq]
theorem Inv.lst {pins : List (Addr × Obj)} {σ : St} {H : Hp} {s : Shared} {p : Addr} {xs : List V} (I : Inv X pins σ H s) (h : H p = some (.lst xs)) :
    ∃ (its : List Value) (n : Nat), Vals xs its ∧ s.heap.get? p = some { cls := .type "list", data := .seq its.toArray n } ∧ xs.length ≤ sizeLine := by
  obtain ⟨z, its, n, r, e⟩ := I.hok p _ h
  exact ⟨its, n, r, e, z⟩
theorem Inv.lstUpd {pins : List (Addr × Obj)} {σ : St} {H : Hp} {s : Shared} {p : Addr} {xs ys : List V} {its its' : List Value} {n n' : Nat} {f : Obj → Obj} (I : Inv X pins σ H s) (h : H p = some (.lst xs))
    (ho : s.heap.get? p = some { cls := .type "list", data := .seq its.toArray n }) (hf : f { cls := .type "list", data := .seq its.toArray n } = { cls := .type "list", data := .seq its'.toArray n' }) (r : Vals ys its') (hz : ys.length ≤ sizeLine) (t : Nat) :
    Inv X pins σ (upd H p (.lst ys)) { s with heap := s.heap.update p f, toks := t } := by
  have e : (s.heap.update p f).get? p = some { cls := .type "list", data := .seq its'.toArray n' } := by
    rw [Heap.get?_update_self f ho (by rw [hf] <;> rfl), hf]
  refine I.write (x := p) (e := p) (by rw [h]; trivial) (.inl rfl) (fun b u hb q => (Heap.get?_update_other _ _ (Ne.symm hb)).trans q) ⟨_, e⟩ ?_
  exact ⟨hz, its', n', r, e⟩
noncomputable def rSetL : V → V → V → Hp → (Hp → Prop) → Prop := fun o i v H Q => ∃ p xs k j, o = .ref p ∧ i = .int k ∧ H p = some (.lst xs) ∧ ixN xs.length k = some j ∧ Q (upd H p (.lst (xs.set j v)))
theorem set_list : PSet X rSetL := by
  intro pins s σ H o i v ov iv u Q I ro ri rv h
  obtain ⟨p, xs, k, j, rfl, rfl, hp, hj, q⟩ := h
  cases ro
  obtain ⟨t, rfl⟩ := ri
  obtain ⟨its, n, r, ho, hz⟩ := I.lst hp
  obtain ⟨h1, h2, h3, h4⟩ := ixN_seq hj
  have hl := r.length
  have hn := line63
  have I' : Inv X pins σ (upd H p (.lst (xs.set j v))) { s with heap := s.heap.update p (Obj.mapSeq (·.setIfInBounds j u)) } :=
    I.lstUpd hp ho (mapSeq_set its n j u) (r.set rv j) (by rw [List.length_set]; exact hz) s.toks
  by_cases h0 : 0 ≤ k
  · have hk : k.toNat = j := by
      rw [seqIndex_of h0 h4] at h1
      exact Option.some.inj h1
    exact PySem.W.ki_setAt ho h0 (by omega) (by rw [List.size_toArray, ← hl]; exact h4) (by rw [hk]; exact ⟨_, I', q⟩)
  · have hk : (k + (its.toArray.size : Int)).toNat = j := by
      rw [seqIndex_neg (by omega) h3] at h1
      rw [List.size_toArray, ← hl]
      exact Option.some.inj h1
    exact PySem.W.ki_setBack ho (by omega) (by rw [List.size_toArray, ← hl]; exact h3) (by omega) (by rw [hk]; exact ⟨_, I', q⟩)
theorem CallR.or {f : Value} {r r' : List V → Hp → VK → Prop} (h : CallR X f r) (h' : CallR X f r') : CallR X f (fun xs H Q => r xs H Q ∨ r' xs H Q) := by
  intro pins s σ H xs us Q I rs q
  rcases q with q | q
  · exact h pins s σ H xs us Q I rs q
  · exact h' pins s σ H xs us Q I rs q
theorem call_list_of : CallR X (.type "list") (fun xs H Q => ∃ p ys, xs = [.ref p] ∧ (SqL X.K H p ys ∨ SqT X.K H p ys) ∧ ∀ l, H l = none → Q (.ref l) (upd H l (.lst ys))) := by
  intro pins s σ H xs us Q I r h
  obtain ⟨p, ys, rfl, hq, q⟩ := h
  obtain ⟨u, rfl, rx⟩ := vals1 r
  cases rx
  have fin : ∀ (its : List Value), Vals ys its → ys.length ≤ sizeLine → ∀ (h' : Heap) (c' : Nat), (∀ b o', s.heap.get? b = some o' → h'.get? b = some o') →
      h'.get? s.heap.objs.size = some { cls := .type "list", dict := none, data := .seq its.toArray c', slots := #[] } → EP X pins σ Q (.ref s.heap.objs.size) { s with heap := h' } := fun its r' hz h' c' kp e =>
    ⟨.ref s.heap.objs.size, _, I.laid (t' := s.toks) kp (Nat.le_refl _) (show ObjOk X.prog X.w _ h' _ (.lst ys) from ⟨hz, its, c', r', e⟩), rfl, q _ (I.hok.fresh (Nat.le_refl _))⟩
  rcases hq with hq | hq
  · obtain ⟨its, r', pl, hz⟩ := I.list hq
    have hlen := r'.length
    obtain ⟨o, ho, hc, n, hd⟩ := pl.isList
    exact call_list_seq p (.inl rfl) ho hc hd (fun h' c' kp e => fin its r' hz h' c' kp e) (by simp only [List.size_toArray] <;> omega)
  · obtain ⟨its, r', pl, hz⟩ := I.tuple hq
    have hlen := r'.length
    obtain ⟨o, ho, hc, n, hd⟩ := pl
    exact call_list_seq p (.inr rfl) ho hc hd (fun h' c' kp e => fin its r' hz h' c' kp e) (by simp only [List.size_toArray] <;> omega)
theorem call_tuple_of : CallR X (.type "tuple") (fun xs H Q => ∃ p ys, xs = [.ref p] ∧ ((SqL X.K H p ys ∧ ∀ l, H l = none → Q (.ref l) (upd H l (.tup ys))) ∨ (SqT X.K H p ys ∧ Q (.ref p) H))) := by
  intro pins s σ H xs us Q I r h
  obtain ⟨p, ys, rfl, h⟩ := h
  obtain ⟨u, rfl, rx⟩ := vals1 r
  cases rx
  rcases h with ⟨hq, q⟩ | ⟨hq, q⟩
  · obtain ⟨its, r', pl, hz⟩ := I.list hq
    have hlen := r'.length
    refine call_tuple_list pl.isList (fun h' kp => ?_) (by simp only [List.size_toArray] <;> omega)
    have I1 : Inv X pins σ H { s with heap := h' } := I.kept (t' := s.toks) kp
    have I2 : Inv X pins σ (upd H h'.objs.size (.tup ys)) { s with heap := h'.push { cls := .type "tuple", data := .seq its.toArray } } :=
      I1.laid (t' := s.toks) (fun b o e => Heap.get?_push_of_some _ e) (Nat.le_refl _) (show ObjOk X.prog X.w _ _ _ (.tup ys) from ⟨hz, its, r', IsTup.new _ _⟩)
    exact ⟨.ref h'.objs.size, _, I2, rfl, q _ (I1.hok.fresh (Nat.le_refl _))⟩
  · obtain ⟨its, r', pl, hz⟩ := I.tuple hq
    exact call_tuple_same pl ⟨.ref p, H, I, rfl, q⟩
noncomputable def tyV (K : PySem.W.Frag) (T : String) (x : V) (H : Hp) : Prop := match x with
  | .str _ => T = "str"
  | .int _ => T = "int"
  | .ref p => (T = "list" ∧ ∃ xs, SqL K H p xs) ∨ (T = "tuple" ∧ ∃ o, K.lookup p = some o ∧ o.cls = .type "tuple" ∧ o.dict = none) ∨
      (T = "dict" ∧ ((∃ kvs, H p = some (.dK kvs)) ∨ ∃ kvs, H p = some (.dT kvs))) ∨ (T = "set" ∧ ∃ S n, H p = some (.set S n))
  | _ => False
theorem tyV_is {pins : List (Addr × Obj)} {σ : St} {H : Hp} {s : Shared} {T : String} {x : V} {v : Value} (I : Inv X pins σ H s) (r : RelV x v) (ty : tyV X.K T x H) :
    s.TypeIs v T ∧ ∀ a, v = .ref a → ∃ ob, s.heap.get? a = some ob ∧ ob.dict = none := by
  cases x with
  | str z =>
    obtain ⟨t, rfl⟩ := r
    cases (show T = "str" from ty)
    exact ⟨typeIs_str s z t, fun _ e => nomatch e⟩
  | int i =>
    obtain ⟨t, rfl⟩ := r
    cases (show T = "int" from ty)
    exact ⟨typeIs_int s i t, fun _ e => nomatch e⟩
  | ref p =>
    cases r
    rcases ty with ⟨rfl, xs, hq⟩ | ⟨rfl, o, hk, hc, hd⟩ | ⟨rfl, hk⟩ | ⟨rfl, S, n, hk⟩
    · obtain ⟨its, _, pl, _⟩ := I.list hq
      refine ⟨pl.isList.typeIs, fun a e => ?_⟩
      cases e
      obtain ⟨o, n, e, c, hd, _⟩ := pl
      exact ⟨o, e, hd⟩
    · refine ⟨⟨o, I.kIn p o hk, hc⟩, fun a e => ?_⟩
      cases e
      exact ⟨o, I.kIn _ o hk, hd⟩
    · have z : ∃ o, s.heap.get? p = some o ∧ o.ExactDict := by
        rcases hk with ⟨kvs, hk⟩ | ⟨kvs, hk⟩
        · obtain ⟨_, _, _, _, o, _, _, e, ex, _⟩ := I.hok p _ hk
          exact ⟨o, e, ex⟩
        · obtain ⟨_, _, _, _, o, _, _, e, ex, _⟩ := I.hok p _ hk
          exact ⟨o, e, ex⟩
      obtain ⟨o, e, ex⟩ := z
      refine ⟨⟨o, e, ex.1⟩, fun a e2 => ?_⟩
      cases e2
      exact ⟨o, e, ex.2.1⟩
    · obtain ⟨o, _, _, _, e, ex, _⟩ := I.hok p _ hk
      refine ⟨⟨o, e, ex.1⟩, fun a e2 => ?_⟩
      cases e2
      exact ⟨o, e, ex.2.1⟩
  | _ => exact False.elim ty
noncomputable def tBM (K : PySem.W.Frag) (T : String) (r : V → List V → Hp → VK → Prop) (to : TE) (t : TA) : TE := fun σ H Q => to σ H fun x H1 => tyV K T x H1 ∧ t σ H1 fun xs H2 => r x xs H2 Q
variable {o e : Expr} {es : List Expr} {to : TE} {t : TA} {name : Str} {apos cpos : Pos} {T id : String} {r : V → List V → Hp → VK → Prop}
theorem pe_bm (pa : PlainAttrs T) (slot : Slot T name id) (hty : typeOf (.builtin id) = pure (.type "method_descriptor")) (hm : MtR X id r) (ho : PE X o to) (ha : PA X (e :: es) t)
    (hbase : attributeBase o name X.env (eval o X.env) = eval o X.env := by rfl)
    (hfew : ((backTo cpos (starEach (e :: es) X.env)).all (fun x => !x.1) && (backToKw cpos (keywordEach [] X.env)).all (fun x => x.1.isSome)
      && decide ((e :: es).length + ([] : List Keyword).length + (if ([] : List Keyword).isEmpty then 0 else 1) < 30)) = true := by rfl)
    (hline : (apos.endLine == cpos.line) = true := by rfl) (hs : starEach (e :: es) X.env = (false, eval e X.env) :: starEach es X.env := by rfl) (hplain : (backTo cpos (starEach es X.env)).any (·.1) = false := by rfl) :
    PE X (.Call (.Attribute o name apos) (e :: es) [] cpos) (tBM X.K T r to t) := by
  intro pins s σ H Q I h
  refine wpAny_Call_method_late hbase hfew hline rfl (thn (ho pins s σ H _ I h) fun v s1 ⟨x, H1, I1, r1, ty, q1⟩ => ?_)
  obtain ⟨h1, h2⟩ := tyV_is I1 r1 ty
  refine ⟨T, id, pa, slot, hty, h1, h2, ?_⟩
  have hA := ha cpos pins s1 σ H1 _ I1 q1
  rw [hs] at hA ⊢
  refine Calls.callWith_builtin (by show (false || (backTo cpos (starEach es X.env)).any (·.1)) = false; rw [hplain] <;> rfl) (Calls.evalArgs_plain ?_)
  exact thn hA fun us s2 ⟨vs, H2, I2, r2, q2⟩ => hm pins s2 σ H2 x vs v us Q I2 r1 r2 q2
end
end L2
namespace L2
open PySem PySem.Spec PyProof.Rows
noncomputable def MtM (X : Cx) (id : String) (r : V → List V → Hp → VK → Prop) : Prop :=
  ∀ (pins : List (Addr × Obj)) (s : Shared) (σ : St) (H : Hp) (x : V) (xs : List V) (v : Value) (us : List Value) (Q : VK), Inv X pins σ H s → RelV x v → Vals xs us → r x xs H Q →
    wpAny (model X.prog X.w) X.A (call (.builtin id) (v :: us)) (EP X pins σ Q) X.xe s
theorem Vals.one : ∀ {x : V} {us : List Value}, Vals [x] us → ∃ u, us = [u] ∧ RelV x u
  | _, _, .cons r .nil => ⟨_, rfl, r⟩
theorem Vals.zero : ∀ {us : List Value}, Vals [] us → us = []
  | _, .nil => rfl
theorem Vals.reverse {xs : List V} {us : List Value} (h : Vals xs us) : Vals xs.reverse us.reverse := by
  induction h with
  | nil => exact .nil
  | cons r t ih => rw [List.reverse_cons, List.reverse_cons]; exact Vals.append ih (.cons r .nil)
section
variable {X : Cx} {pins : List (Addr × Obj)} {σ : St} {H : Hp} {s : Shared} {l b : Addr} {xs ys zs : List V}
theorem Inv.lset {its its' : List Value} {n : Nat} {f : Array Value → Array Value} {t' : Nat} (I : Inv X pins σ H s) (hH : H l = some (.lst xs))
    (e : s.heap.get? l = some { cls := .type "list", data := .seq its.toArray n }) (hf : f its.toArray = its'.toArray) (hv : Vals ys its') (hz : ys.length ≤ sizeLine) :
    Inv X pins σ (upd H l (.lst ys)) { s with heap := s.heap.update l (Obj.mapSeq f), toks := t' } := by
  have q := PySem.IsL.update e f
  rw [hf] at q
  refine I.write (x := l) (e := l) (by rw [hH]; exact trivial) (.inl rfl) (fun b' u hb hu => (Heap.get?_update_other s.heap (Obj.mapSeq f) (Ne.symm hb)).trans hu) ⟨_, q⟩ ?_
  exact ⟨hz, its', _, hv, q⟩
theorem Inv.lnew {its : List Value} {t' : Nat} (I : Inv X pins σ H s) (hv : Vals ys its) (hz : ys.length ≤ sizeLine) :
    Inv X pins σ (upd H s.heap.objs.size (.lst ys)) { s with heap := s.heap.push { cls := .type "list", data := .seq its.toArray }, toks := t' } :=
  I.laid (fun _ _ q => Heap.get?_push_of_some _ q) (Nat.le_refl _) ⟨hz, its, 0, hv, Heap.get?_push_size _ rfl⟩
theorem Inv.fresh (I : Inv X pins σ H s) : H s.heap.objs.size = none := I.hok.fresh (Nat.le_refl _)
theorem Inv.lstM (I : Inv X pins σ H s) (hH : H l = some (.lst xs)) : xs.length ≤ sizeLine ∧ ∃ (its : List Value) (n : Nat), Vals xs its ∧ xs.length = its.length ∧ s.heap.get? l = some { cls := .type "list", data := .seq its.toArray n } := by
  obtain ⟨z, its, n, r, e⟩ := I.hok l _ hH
  exact ⟨z, its, n, r, r.length, e⟩
theorem notLongL {n : Nat} (h : n ≤ sizeLine) : Builtin.List.listTooLong n = false := by
  unfold Builtin.List.listTooLong
  exact decide_eq_false (by omega)
end
section
variable {X : Cx}
noncomputable def rAppend : V → List V → Hp → VK → Prop := fun x vs H Q => ∃ l xs y, x = .ref l ∧ vs = [y] ∧ H l = some (.lst xs) ∧ xs.length < sizeLine ∧ Q .non (upd H l (.lst (xs ++ [y])))
theorem mt_append : MtM X "list.append" rAppend := by
  intro pins s σ H x vs v us Q I rx rv h
  obtain ⟨l, xs, y, rfl, rfl, hH, hz, q⟩ := h
  cases rx
  obtain ⟨u, rfl, ru⟩ := rv.one
  obtain ⟨z, its, n, r, hl, e⟩ := I.lstM hH
  refine call_meets F.slot_list_append ⟨_, e, rfl⟩ F.entry_list_append (F.args_list_append_2 _ _) (PySem.list_append l its.toArray n u (by rw [List.size_toArray]; omega)) ⟨e, ?_⟩
  refine ⟨.non, _, I.lset (its' := its ++ [u]) hH e (by simp) (r.append (.cons ru .nil)) ?_, rfl, q⟩
  rw [List.length_append, List.length_singleton]
  omega
end
section
variable {prog : Program} {w : World} {A : Around} {E : Value → Shared → Prop} {s : Shared}
theorem bounds_run {a c n : Nat} (hac : a ≤ c) (hc : c ≤ n) : sliceBounds (some (a : Int)) (some (c : Int)) none n = ((a : Int), (c : Int), 1) := by
  simp only [sliceBounds, Option.getD_none]
  have h1 : ¬ ((a : Int) < 0) := by omega
  have h2 : ¬ ((c : Int) < 0) := by omega
  simp only [h1, h2, if_false, show (1 : Int) > 0 by decide, if_true]
  congr 1
  · omega
  · congr 1; omega
set_option maxRecDepth 100000 in
theorem setItem_slice {l b sl : Addr} {items new : Array Value} {n n2 : Nat} {vl vu : Value} {a c : Nat} {Q : Unit → Shared → Prop}
    (e : s.heap.get? l = some { cls := .type "list", data := .seq items n }) (e2 : s.heap.get? b = some { cls := .type "list", data := .seq new n2 }) (hne : l ≠ b)
    (hs : s.heap.IsSliceOf sl vl vu .none) (pl : IsPart vl (some (a : Int))) (pu : IsPart vu (some (c : Int))) (hac : a ≤ c) (hc : c ≤ items.size)
    (hsz : items.size + new.size ≤ sizeLine) (h : Q () { s with heap := s.heap.update l (Obj.mapSeq fun xs => xs.extract 0 a ++ new ++ xs.extract c xs.size) }) :
    wpAny (model prog w) A (setItem (.ref l) (.ref sl) (.ref b)) Q E s := by
  have hl : s.heap.IsList l items := PySem.IsL.isList e
  have hb : s.heap.IsList b new := PySem.IsL.isList e2
  obtain ⟨os, hos, hcs, hds⟩ := id hs
  have hTs : s.TypeIs (.ref sl) "slice" := ⟨os, hos, hcs⟩
  have hstep : ¬ ((rawPart none == rawInt 0) = true) := Bool.false_ne_true
  have hsame : Builtin.List.listSameRef (.ref l) (.ref b) = false := by
    unfold Builtin.List.listSameRef
    exact beq_eq_false_iff_ne.mpr hne
  have hmax : (max (a : Int) (c : Int)).toNat = c := by omega
  have hz' : ((fun xs : Array Value => xs.extract 0 a ++ new ++ xs.extract c xs.size) items).size ≤ sizeLine + 1 := by
    simp only [Array.size_append, Array.size_extract]
    omega
  unfold setItem
  try with_reducible refine wpAny_holding ?_
  first | refine wpAny_bind (wpAny_pure ?_) | skip
  refine wpAny_bind (wpAny_sequenceKey hl.typeIs (by decide) ?_)
  refine wpAny_bind (wpAny_callSpecial?_slot (name := Str.ofString "__setitem__") hl.typeIs slot_list_setitem
    (wpAny_call_entry slot_list_setitem hl.typeIs entry_list_setitem ?_ (args_list_setitem _ _ _)))
  show wpAny _ _ (Builtin.List.listSubscript? (.ref sl) >>= _) _ _ s
  refine wpAny_bind ?_
  unfold Builtin.List.listSubscript?
  refine wpAny_bind (wpAny_specialOf hTs slice_no_index ?_)
  simp only [Option.isNone_none, if_true]
  refine wpAny_pure ?_
  show wpAny _ _ (typeOf (.ref sl) >>= _) _ _ s
  refine wpAny_bind (wpAny_typeOf hTs ?_)
  first
    | rw [if_neg (by decide)]
    | refine PySem.W.KFB.if_not (by decide) ?_
  rw [listSliceParts_eq]
  refine wpAny_bind (wpAny_bind (wpAny_field hos hds (x := .none) rfl (wpAny_bind (wpAny_listPart .none ?_))))
  rw [if_neg hstep]
  refine wpAny_bind (wpAny_field hos hds (x := vl) rfl (wpAny_bind (wpAny_listPart pl ?_)))
  refine wpAny_bind (wpAny_field hos hds (x := vu) rfl (wpAny_bind (wpAny_listPart pu (wpAny_pure ?_))))
  first
    | simp only [hsame, Bool.false_eq_true, if_false]
    | refine PySem.W.KFB.if_not hsame ?_
    | (dsimp only
       rw [if_neg (by rw [hsame]; exact Bool.false_ne_true)])
  refine wpAny_bind (m := Builtin.List.listAllItems (.ref b) "must assign iterable to extended slice") ?_
  unfold Builtin.List.listAllItems
  refine wpAny_bind (wpAny_typeOf hb.typeIs ?_)
  first
    | refine PySem.W.KFB.if_so (by decide) ?_
    | rw [if_pos (by decide)]
    | simp only [beq_self_eq_true, Bool.true_or, if_true]
  unfold Builtin.List.listItems
  refine wpAny_bind (wpAny_seqItems e2 rfl (wpAny_pure ?_))
  refine wpAny_bind (wpAny_bind (wpAny_seqItems e rfl (wpAny_pure ?_)))
  refine wpAny_bind (wpAny_of_eq ((sliceIndices_raw (some (a : Int)) (some (c : Int)) none items.size (by simp)).trans (congrArg (pure : Int × Int × Int → Sem (Int × Int × Int)) (bounds_run hac hc))) ?_)
  show wpAny _ _ (if ((1 : Int) == 1) = true then _ else _) _ _ s
  rw [if_pos (by decide)]
  refine wpAny_bind (wpAny_rule ?_)
  first
    | simp only [notLongL hsz, Bool.false_eq_true, if_false]
    | refine PySem.W.KFB.if_not (notLongL hsz) ?_
  first | refine wpAny_bind (wpAny_pure ?_) | skip
  show wpAny _ _ (updateSeq l (fun xs => xs.extract 0 ((a : Int)).toNat ++ new ++ xs.extract (max (a : Int) (c : Int)).toNat xs.size) >>= _) _ _ s
  rw [hmax, Int.toNat_natCast]
  refine wpAny_bind (wpAny_updateSeq (hz := Nat.le_trans (Nat.le_add_right _ _) hsz) (_hz' := hz') e rfl ?_)
  refine wpAny_bind (wpAny_letGo ?_)
  first
    | exact wpAny_bind (wpAny_pure (wpAny_pure ⟨.none, rfl, wpAny_pure h⟩))
    | exact wpAny_pure ⟨.none, rfl, wpAny_pure h⟩
end
section
variable {X : Cx}
end
end L2
namespace Att
open PySem PySem.W PySem.Calls PyProof.Rows
theorem ints_of_wellAll {P : Params} {h : Heap} : ∀ (ns : List Int) (vs : List Value), WellAll P h vs (ns.map WData.int) → IntsAre vs ns := by
  intro ns
  induction ns with
  | nil =>
    intro vs w
    rw [List.map_nil] at w
    cases w
    exact .nil
  | cons n ns ih =>
    intro vs w
    rw [List.map_cons] at w
    cases w with
    | cons a b =>
      cases a
      exact .cons _ _ (ih _ b)
theorem script_of {l : OpenLaw} {n : Nat} (hn : l.most = some n) {P : Params} {h : Heap} {args : List WData} {vals : List Value}
    (hpre : l.row.toRowW.claim.pre args = true) (hwl : WellAll P h vals args) :
    ∃ a vs ns, vals = [Value.ref a] ∧ args = [WData.list (ns.map WData.int)] ∧ h.get? a = some { cls := .type "list", data := .seq vs.toArray } ∧ IntsAre vs ns ∧ ns.length ≤ n := by
  have hsh : WShape.hasAll [] args [.list .int] = true := (pre_splitW hpre).1
  have hc : l.pre.holds [] { args := args } = true := (pre_splitW hpre).2
  obtain ⟨d, r, rfl, h1, h2⟩ := hasAllW_cons hsh
  obtain rfl := hasAllW_nil h2
  obtain ⟨xs, rfl, h3⟩ := hasW_list h1
  obtain ⟨ns, rfl⟩ := items_int h3
  have hlen : ns.length ≤ n := by
    unfold OpenLaw.pre at hc
    have h4 : (WTm.not (.lt (.lit (.int (n : Int))) (.len (.arg 0)))).holds [] { args := [.list (ns.map .int)] } = true := by
      have h4 := (holds_andW hc).1
      rw [hn] at h4
      exact h4
    have h5 := condW_of h4 (w_not (w_lt w_lit (w_len_list (w_arg rfl))))
    rw [List.length_map] at h5
    refine Nat.le_of_not_lt fun q => ?_
    have q' : (n : Int) < ((ns.length : Nat) : Int) := by omega
    first
      | (rw [decide_eq_true q'] at h5; exact absurd h5 (by decide))
      | (simp at h5; omega)
  cases hwl with
  | cons w1 w2 =>
    cases w2
    cases w1 with
    | list ho hall => exact ⟨_, _, ns, rfl, rfl, ho, ints_of_wellAll ns _ hall, hlen⟩
theorem post_true (l : OpenLaw) (args : List WData) : l.row.toRowW.claim.post args (.bool true) args = true :=
  postW_of (r := l.row.toRowW) (X := (true == true))
    (show WShape.has [] (.bool true) .bool = true by first | rfl | decide | simp [WShape.has, WShape.arms, WShape.armsAll])
    (show (WTm.eq .res (.lit (.bool true))).value [] { args := args, res := some (.bool true), after := args } = some (.bool (true == true)) from w_eq_bool (w_res rfl) w_lit) rfl
theorem attach_call {l : OpenLaw} {n : Nat} {q : Program} {loose : List Str} {XP : (Str → Option Value) → Heap → Prop} {YP : World → Heap → Prop} {d : DefRec}
    (hn : l.most = some n) (hdf : d.params.defaults = [])
    (call : ∀ (w : World) (s₀ s₁ : Shared) (mg mb : Str → Option Value) (fa : Addr) (o : Obj) (pm cd doc : Value) (a : Addr) (vs : List Value) (ns : List Int),
      Ground q loose [] XP w s₀ mg mb s₁.heap → YP w s₁.heap →
      s₁.heap.get? fa = some o → o.data = .func (docDef d.name d.params d.body d.scope pm cd doc) → s₁.heap.CodeRec cd d.name → mg d.name = some (.ref fa) →
      s₁.heap.get? a = some { cls := .type "list", data := .seq vs.toArray } → IntsAre vs ns → ns.length ≤ n → s₁.gens = #[] →
      codeAny (model l.prog w) callerA (.call (.ref fa) ⟨[.ref a], []⟩) (fun r s' => r = .ok (.ret (.bool true)) ∧ OldK s₁.heap s'.heap ∧ s'.os = s₁.os ∧ AllBare s'.gens) s₁) :
    WalkO q loose XP YP l.row.toRowW d [] (fun f vs => PySem.call f vs) := by
  intro w s₀ s₁ mg mb G Y fa o pm cd doc dV kV ho hd hcd hD hmg hg args vals as hpre hlay hrd hwl hlo
  obtain rfl : dV = .none := Dflts.none hD hdf
  obtain rfl : kV = .none := Dflts.noKw hD
  obtain ⟨a, vs, ns, rfl, rfl, hobj, hints, hlen⟩ := script_of hn hpre hwl
  refine enter_call (codeAny_mono (call w s₀ s₁ mg mb fa o pm cd doc a vs ns G Y ho (fd_plain hd) hcd hmg hobj hints hlen hg) fun r s' hq => ?_)
  obtain ⟨rfl, h2, h3, h4⟩ := hq
  exact ⟨.inl ⟨.bool true, .bool true, [], rfl, fun _ => rfl, .bool true, post_true l _, fun _ => ⟨List.Pairwise.nil, fun _ hm => (nomatch hm)⟩⟩, h2, h3, h4⟩
section
variable {prog : Program} {w : World} {A : Around} {E : Value → Shared → Prop} {s : Shared} {K : Frag}
end
end Att
namespace L2
open PySem PySem.Spec PyProof.Rows
theorem vals_ints : ∀ {vs : List Value} {ns : List Int}, IntsAre vs ns → Vals (ns.map V.int) vs
  | _, _, .nil => .nil
  | _, _, .cons n t h => .cons ⟨t, rfl⟩ (vals_ints h)
noncomputable def Only (H : Hp) : Prop := ∀ b, H b = none ∨ ∃ o xs, H b = some (.frz o (.lst xs))
theorem law_call {P : Program} {w : World} {K : PySem.W.Frag} {mg mb : Str → Option Value} {CX : CXT} {k : Nat} {fa a : Addr} {fd : FuncData} {x : Str} {sp : Sp} {s₁ : Shared} {vs : List Value} {ns : List Int}
    (KX : K.In s₁.heap) (hns : s₁.heap.Ns mainGlobals mg) (hb : s₁.heap.Ns builtinsNs mb) (hbb : ∀ x : Str, x ≠ "__name__" → mb x = bootBuiltins x) (hlim : s₁.heap.NoLimit) (hg : s₁.gens = #[])
    (ha : s₁.heap.get? a = some { cls := .type "list", data := .seq vs.toArray }) (hi : IntsAre vs ns) (hl : ns.length ≤ sizeLine) (hr : Room k callerA)
    (F : ∀ base : Heap, K.In base → base.Ns mainGlobals mg → FnOk P w K mg base CX k fa fd [x] sp) (hbind : ∀ (s : Shared) (u : Value), BindsTo s fd ⟨[u], []⟩ [(x, u)])
    (hsp : ∀ H : Hp, Only H → SqL K H a (ns.map V.int) → sp [.ref a] H (fun v _ => v = .bl true) fun _ _ _ => False)
    (hCX : ∀ H e s', CX [] H s₁ (fun _ _ _ => False) e s' → False) :
    codeAny (model P w) callerA (.call (.ref fa) ⟨[.ref a], []⟩) (fun r s' => r = .ok (.ret (.bool true)) ∧ OldK s₁.heap s'.heap ∧ s'.os = s₁.os ∧ AllBare s'.gens) s₁ := by
  have rv := vals_ints hi
  have lenV := hi.length
  have core : ∀ H : Hp, Only H → SqL K H a (ns.map V.int) → HOk P w H s₁.heap → (∀ b, H b ≠ none → b = a) → (H a ≠ none → K.lookup a = none) →
      codeAny (model P w) callerA (.call (.ref fa) ⟨[.ref a], []⟩) (fun r s' => r = .ok (.ret (.bool true)) ∧ OldK s₁.heap s'.heap ∧ s'.os = s₁.os ∧ AllBare s'.gens) s₁ := by
    intro H hO hS hok hA hK
    have base_of : ∀ {b : Addr} {o : Obj}, s₁.heap.get? b = some o → H b = none → (hidT s₁.heap H).get? b = some o := fun e n => hidT_get e n
    have noA : ∀ {b : Addr} {o : Obj} {es : Array DictEntry} {ep : Nat}, s₁.heap.get? b = some o → o.data = .dict es ep → H b = none := fun {b o es ep} e d => by
      cases q : H b with
      | none => rfl
      | some u =>
        have e' : b = a := hA b (by rw [q]; simp)
        subst e'
        rw [ha] at e; cases e
        have d' : Data.seq vs.toArray _ = Data.dict es ep := d
        cases d'
    have nsK : ∀ {b : Addr} {m : Str → Option Value}, s₁.heap.Ns b m → (hidT s₁.heap H).Ns b m := fun {b m} ⟨o, es, ep, e, d, r⟩ => ⟨o, es, ep, base_of e (noA e d), d, r⟩
    have hKb : K.In (hidT s₁.heap H) := fun b o e => base_of (KX b o e) (by
      cases q : H b with
      | none => rfl
      | some u =>
        have e' : b = a := hA b (by rw [q]; simp)
        subst e'
        rw [hK (by rw [q]; simp)] at e; cases e)
    have hM : Mod K mg (hidT s₁.heap H) := ⟨hKb, nsK hns, ⟨mb, nsK hb, hbb⟩, let ⟨mc, h1, h2⟩ := hlim; ⟨mc, nsK h1, h2⟩⟩
    have e0 : Env0 P w K mg (hidT s₁.heap H) callerA [] s₁ H := ⟨rfl, hM, fun b o e => of_hidT e, Nat.le_of_eq (hidT_size _ _), trivial, fun b hb => absurd (show b ∈ ([] : List Addr) from hb) (by simp), hok, .of_eq hg⟩
    refine codeAny_mono ((F _ hKb (nsK hns)).run callerA [] s₁ H ⟨[.ref a], []⟩ [.ref a] [.ref a] _ _ hr e0 (hbind s₁ (.ref a)) (.cons rfl .nil) (hsp H hO hS)) fun r s' h => ?_
    cases r with
    | error e => exact (hCX H e s' h).elim
    | ok fl =>
      cases fl with
      | next => exact False.elim h
      | brk => exact False.elim h
      | cont => exact False.elim h
      | ret u =>
        obtain ⟨v, H', os, bare, un, hok', r', q⟩ := h
        have q' : v = .bl true := q
        subst q'
        obtain rfl : u = Value.bool true := r'
        refine ⟨rfl, OldK.of_keep fun b o e => ?_, os, bare⟩
        cases q : H b with
        | none => exact un.keep b o e q (by intro z; exact absurd (show b ∈ ([] : List Addr) from z) (by simp)) (by simp)
        | some u =>
          rcases hO b with z | ⟨ob, xs, z⟩
          · rw [q] at z; cases z
          · have z2 := un.frzs b ob _ z
            obtain ⟨e1, _⟩ := hok b _ z
            obtain ⟨e2, _⟩ := hok' b _ z2
            rw [e] at e1; cases e1
            exact e2
  cases hk : K.lookup a with
  | some o =>
    have e := KX a o hk
    rw [ha] at e
    cases e
    refine core (fun _ => none) (fun _ => .inl rfl) (.inr ⟨_, vs.toArray, _, hk, rfl, rfl, rfl, by rw [List.size_toArray, lenV]; exact hl, by simpa using rv⟩) (fun b u z => by have z' : (none : Option HO) = some u := z; cases z') (fun b z => absurd rfl z) fun z => absurd rfl z
  | none =>
    refine core (fun b => if b = a then some (.frz { cls := .type "list", data := .seq vs.toArray } (.lst (ns.map V.int))) else none) (fun b => ?_) (.inl (.inr ⟨{ cls := .type "list", data := .seq vs.toArray }, if_pos rfl⟩)) (fun b u z => ?_) (fun b z => ?_) fun _ => hk
    · by_cases hb : b = a
      · exact .inr ⟨_, _, if_pos hb⟩
      · exact .inl (if_neg hb)
    · by_cases hb : b = a
      · have z' := (if_pos hb).symm.trans z
        cases z'
        subst hb
        exact ⟨ha, by rw [List.length_map]; exact hl, vs, _, rv, ha⟩
      · have z' := (if_neg hb).symm.trans z
        cases z'
    · by_cases hb : b = a
      · exact hb
      · exact absurd (if_neg hb) z
end L2
namespace L2
open PySem PySem.Spec PyProof.Rows
theorem walk_of {l : PySem.W.OpenLaw} {n k : Nat} {q : Program} {loose : List Str} {XP : (Str → Option Value) → Heap → Prop} {YP : World → Heap → Prop} {d : DefRec} {K : Params → PySem.W.Frag} {CX : World → CXT} {sp : World → Sp} {x : Str}
    (hn : l.most = some n) (hn2 : n ≤ sizeLine) (hdf : d.params.defaults = []) (hr : Room k callerA)
    (hY : ∀ (w : World) (h : Heap), YP w h → (K w.params).In h)
    (F : ∀ (w : World) (mg : Str → Option Value) (fa : Addr) (h : Heap), (K w.params).In h → h.Ns mainGlobals mg → mg d.name = some (.ref fa) →
      ∃ fd : FuncData, (∀ (s : Shared) (u : Value), BindsTo s fd ⟨[u], []⟩ [(x, u)]) ∧
        ∀ base : Heap, (K w.params).In base → base.Ns mainGlobals mg → FnOk l.prog w (K w.params) mg base (CX w) k fa fd [x] (sp w))
    (hsp : ∀ (w : World) (H : Hp) (a : Addr) (ns : List Int), ns.length ≤ n → Only H → SqL (K w.params) H a (ns.map V.int) → sp w [.ref a] H (fun v _ => v = .bl true) fun _ _ _ => False)
    (hCX : ∀ (w : World) (H : Hp) (s : Shared) (e : Value) (s' : Shared), CX w [] H s (fun _ _ _ => False) e s' → False) :
    PySem.W.WalkO q loose XP YP l.row.toRowW d [] (fun f vs => PySem.call f vs) := by
  refine Att.attach_call hn hdf fun w s₀ s₁ mg mb fa o pm cd doc a vs ns G Y ho hd hcd hmg hobj hints hlen hg => ?_
  have KX := hY w _ Y
  obtain ⟨fd, hb, hF⟩ := F w mg fa _ KX G.T.g hmg
  exact law_call KX G.T.g G.T.b G.T.builtins G.T.nolimit hg hobj hints (Nat.le_trans hlen hn2) hr hF hb (fun H hO hS => hsp w H a ns hlen hO hS) fun H e s' => hCX w H s₁ e s'
end L2
namespace L2
open PySem PySem.Spec PyProof.Rows
noncomputable def inClass (s : Stmt) (j : Nat) : Stmt := match s with
  | .ClassDef _ _ _ body _ _ _ _ _ _ _ => body.getD j (.Pass ⟨0, 0, 0, 0⟩)
  | _ => .Pass ⟨0, 0, 0, 0⟩
noncomputable def defArgs (s : Stmt) : Arguments := match s with
  | .FunctionDef _ a _ _ _ _ _ _ _ _ => a
  | _ => { posonlyargs := [], args := [], vararg := none, kwonlyargs := [], kw_defaults := [], kwarg := none, defaults := [] }
noncomputable def defBody (s : Stmt) : List Stmt := match s with
  | .FunctionDef _ _ b _ _ _ _ _ _ _ => b
  | _ => []
noncomputable def defScope (s : Stmt) : Scope := match s with
  | .FunctionDef _ _ _ _ _ _ sc _ _ _ => sc
  | _ => { kind := .function, names := [], isGenerator := false, isCoroutine := false }
noncomputable abbrev CX0 : CXT := fun _ _ _ _ _ _ => False
noncomputable abbrev E0 : XK := fun _ _ _ => False
theorem pass0 {X : Cx} : Passes CX0 X E0 := fun _ _ _ _ _ _ _ h => h.elim
structure Fun (K : PySem.W.Frag) (x qual : Str) (st : Stmt) (f : Addr) (fd : FuncData) : Prop where
  ex : ∃ (oc : Value) (od : Option Addr) (kV doc pm : Value) (an : Option Addr) (cdv ct : Value) (osl : Array (Option Value)),
    fd = PySem.W.fnOf x qual (defArgs st) (defBody st) (defScope st) .none kV doc pm an cdv ct ∧ K.lookup f = some ⟨oc, od, .func fd, osl⟩ ∧ PySem.W.codeIn K cdv qual = true
  kp : PySem.W.keepIn K (.ref f) = true
section
variable {P : Program} {w : World} {K : PySem.W.Frag} {mg : Str → Option Value} {base : Heap}
theorem Fun.ok {x qual : Str} {st : Stmt} {f : Addr} {fd : FuncData} {N ps : List Str} {k : Nat} {sp : Sp} (F : Fun K x qual st f fd) (S : FnScope N ps (defScope st)) (len : ∀ vs H Q E, sp vs H Q E → vs.length = ps.length)
    (hbody : ∀ (cdv : Value) (A : Around) (outer : List Env) (s : Shared) (H : Hp) (vs : List V) (Q : VK) (E : XK), Room k (A.deeper (envOfC qual (defScope st) s.heap.objs.size f cdv)) → sp vs H Q E →
      ∃ t, PSs (cxOf CX0 P w K mg base N qual (defScope st) f cdv A outer s H E).nox (defBody st) t ∧ t { nx := fun _ H' => Q .non H', rt := Q } (start N vs) H) : FnOk P w K mg base CX0 (k + 1) f fd ps sp := by
  obtain ⟨oc, od, kV, doc, pm, an, cdv, ct, osl, rfl, lk, hcd⟩ := F.ex
  refine fn_of lk hcd S len fun A outer s H vs Q E hr hsp => ?_
  obtain ⟨t, h, q⟩ := hbody cdv A outer s H vs Q E hr hsp
  exact ⟨t, h.nox, q⟩
theorem Fun.binds {x qual : Str} {st : Stmt} {f : Addr} {fd : FuncData} {ps : List Str} (F : Fun K x qual st f fd)
    (h : ∀ (kV doc pm : Value) (an : Option Addr) (cdv ct : Value) (us : List Value), us.length = ps.length → bindArgs (PySem.W.fnOf x qual (defArgs st) (defBody st) (defScope st) .none kV doc pm an cdv ct) ⟨us, []⟩ = pure (ps.zip us)) : Binds K fd ps [] := by
  obtain ⟨oc, od, kV, doc, pm, an, cdv, ct, osl, rfl, lk, hcd⟩ := F.ex
  exact .all (h kV doc pm an cdv ct)
theorem fun_mk {x qual : Str} {st : Stmt} {f : Addr} {oc : Value} {od an : Option Addr} {osl : Array (Option Value)} {kV doc pm cdv ct : Value} (l : K.lookup f = some ⟨oc, od, .func (PySem.W.fnOf x qual (defArgs st) (defBody st) (defScope st) .none kV doc pm an cdv ct), osl⟩)
    (c : PySem.W.codeIn K cdv qual = true) (k : PySem.W.keepIn K (.ref f) = true) : Fun K x qual st f (PySem.W.fnOf x qual (defArgs st) (defBody st) (defScope st) .none kV doc pm an cdv ct) := ⟨⟨oc, od, kV, doc, pm, an, cdv, ct, osl, rfl, l, c⟩, k⟩
end
theorem hu_of {A : Around} {k : Nat} (hr : Room k A) : A.units + 1 < cLine := Nat.lt_of_le_of_lt (Nat.add_le_add_left (by decide : 1 ≤ 64) _) hr.units
section
variable {X : Cx}
theorem pv (i : Nat) {x : Str} {pos : Pos} (hN : X.N[i]? = some x := by rfl) (hv : Vis X.env.scope x := by first | exact Or.inl rfl | exact Or.inr (Or.inl rfl) | exact Or.inr (Or.inr rfl)) (hd : (x == ("__debug__" : Str)) = false := by decide)
    (hcd : (x == ("__classdict__" : Str)) = false := by decide) : PE X (.Name x pos) (tVar i) := pe_var hN hv hd hcd
end
theorem iteF {A B : Prop} (h : B) : if false = true then A else B := by
  rw [if_neg Bool.false_ne_true]
  exact h
theorem iteT {A B : Prop} (h : A) : if true = true then A else B := by
  rw [if_pos rfl]
  exact h
noncomputable def Same (H H' : Hp) : Prop := ∀ b o, H b = some o → H' b = some o
theorem Same.refl (H : Hp) : Same H H := fun _ _ h => h
theorem Same.trans {H H1 H2 : Hp} (a : Same H H1) (b : Same H1 H2) : Same H H2 := fun c o h => b c o (a c o h)
theorem Same.free {H H' : Hp} (e : Same H H') {l : Addr} (h : H' l = Option.none) : H l = Option.none := by
  cases q : H l with
  | none => rfl
  | some o =>
    rw [e l o q] at h
    cases h
theorem Same.seq {K : PySem.W.Frag} {H H' : Hp} {a : Addr} {xs : List V} (e : Same H H') (h : SqL K H a xs) : SqL K H' a xs := by
  rcases h with (h | ⟨o, h⟩) | h
  · exact .inl (.inl (e _ _ h))
  · exact .inl (.inr ⟨o, e _ _ h⟩)
  · exact .inr h
end L2
set_option maxHeartbeats 4000000
namespace L2
open PySem PySem.Spec PyProof.Rows
noncomputable def clOf (env : Env) : List (Str × NameKind) → List (Str × Addr) → List (Str × Addr)
  | [], acc => acc
  | (n, k) :: r, acc => if (k == NameKind.free) = true then (match env.cells.lookup n with | some a => clOf env r ((n, a) :: acc) | none => clOf env r acc) else clOf env r acc
theorem clOf_sub {env : Env} : ∀ {names : List (Str × NameKind)} {acc : List (Str × Addr)}, (∀ x c, acc.lookup x = some c → env.cells.lookup x = some c) →
    ∀ x c, (clOf env names acc).lookup x = some c → env.cells.lookup x = some c
  | [], _, h => h
  | (n, k) :: r, acc, h => by
    intro x c e
    unfold clOf at e
    split at e
    · split at e
      · rename_i a ha
        refine clOf_sub (names := r) (acc := (n, a) :: acc) (fun y d q => ?_) x c e
        rw [List.lookup_cons] at q
        split at q
        · rename_i hy
          have : y = n := by simpa using hy
          subst this
          rw [ha]; exact q
        · exact h y d q
      · exact clOf_sub h x c e
    · exact clOf_sub h x c e
theorem clOf_keep {env : Env} : ∀ {names : List (Str × NameKind)} {acc : List (Str × Addr)} {x : Str}, (∃ c, acc.lookup x = some c) → ∃ c, (clOf env names acc).lookup x = some c
  | [], _, _, h => h
  | (n, k) :: r, acc, x, h => by
    unfold clOf
    split
    · split
      · rename_i a ha
        refine clOf_keep ?_
        rw [List.lookup_cons]
        split
        · exact ⟨_, rfl⟩
        · exact h
      · exact clOf_keep h
    · exact clOf_keep h
theorem clOf_has {env : Env} : ∀ {names : List (Str × NameKind)} {acc : List (Str × Addr)} {x : Str}, (x, NameKind.free) ∈ names → (∃ c, env.cells.lookup x = some c) → ∃ c, (clOf env names acc).lookup x = some c
  | (n, k) :: r, acc, x, hm, hc => by
    rcases List.mem_cons.mp hm with e | e
    · cases e
      obtain ⟨c, hc⟩ := hc
      unfold clOf
      rw [if_pos (by rfl), hc]
      exact clOf_keep ⟨c, by rw [List.lookup_cons]; simp⟩
    · unfold clOf
      split
      · split
        · exact clOf_has e hc
        · exact clOf_has e hc
      · exact clOf_has e hc
theorem clos_run {env : Env} : ∀ (names : List (Str × NameKind)) (acc : List (Str × Addr)), (∀ x ∈ names, x.2 = .free → ∃ c, env.cells.lookup x.1 = some c) →
    (forIn names acc (fun (x : Str × NameKind) (r : List (Str × Addr)) => (match x with
      | (name, kind) => if (kind == NameKind.free) = true then do
          let a ← cellOf env name
          pure (ForInStep.yield ((name, a) :: r))
        else pure (ForInStep.yield r))) : Sem (List (Str × Addr))) = pure (clOf env names acc) := by
  intro names
  induction names with
  | nil => intro acc _; rfl
  | cons y r ih =>
    intro acc h
    obtain ⟨n, k⟩ := y
    have ih' := fun acc => ih acc fun x hx => h x (List.mem_cons_of_mem _ hx)
    rw [List.forIn_cons]
    unfold clOf
    by_cases hk : (k == NameKind.free) = true
    · have hk' : k = .free := by simpa using hk
      obtain ⟨c, hc⟩ := h (n, k) List.mem_cons_self hk'
      simp only [hk, if_true, cellOf, hc]
      exact ih' _
    · simp only [hk, Bool.false_eq_true, if_false]
      exact ih' _
theorem closureFor_eq {scope : Scope} {env : Env} (h : ∀ x ∈ scope.names, x.2 = .free → ∃ c, env.cells.lookup x.1 = some c) : closureFor scope env = pure (clOf env scope.names []) := by
  have e := clos_run scope.names [] h
  unfold closureFor
  dsimp only
  rw [e]
  rfl
structure BA where
  fp : List Addr
  pins : List (Addr × Obj)
  s : Shared
  H : Hp
  C : Addr
noncomputable def blk (X : Cx) (N : List Str) (sc : Scope) (b : BA) : Cx :=
  { prog := X.prog, w := X.w, K := X.K, mg := X.mg, base := X.base, A := X.A, N := N, s₀ := b.s, H₀ := b.H, env := compEnvC sc (clOf X.env sc.names []) b.C X.env,
    outer := X.stack, stack := X.stack, ex := b.fp, fn := fun _ => false, calm := X.calm, pn := X.pn ++ b.pins, xe := fun _ _ => False }
structure Blk (X : Cx) (N : List Str) (sel : List (Option Nat)) (sc : Scope) : Prop where
  kind : sc.kind = .function
  nocell : (sc.names.all fun y => y.2 != .cell) = true
  free : (sc.names.all fun y => y.2 != .free || (X.env.kindOf y.1 == some .cell || X.env.kindOf y.1 == some .free)) = true
  names : (sc.names.all fun y => y.2 != .local || sc.names.lookup y.1 == some .local) = true
  len : sel.length = N.length
  sel : ((N.zip sel).all fun y => match y.2 with | none => true | some j => (X.N[j]? == some y.1) && (sc.names.lookup y.1 == some NameKind.free)) = true
noncomputable def capt (σ : St) (sel : List (Option Nat)) : St := sel.map fun o => match o with | none => none | some j => (σ[j]?).join
theorem lookup_relabel_kind {env : Env} {k : NameKind} : ∀ {names : List (Str × NameKind)} {x : Str},
    (names.map fun (n, k) => if (k == NameKind.free && env.scope.kind == .function && env.kindOf n == some .cell) then (n, NameKind.cell) else (n, k)).lookup x = some k →
    ∃ k', names.lookup x = some k' ∧ (k' = k ∨ (k' = .free ∧ k = .cell))
  | [], _, h => by simp at h
  | (n, k0) :: r, x, h => by
    have ih := @lookup_relabel_kind env k r x
    have h : List.lookup x ((if (k0 == NameKind.free && env.scope.kind == .function && env.kindOf n == some .cell) = true then (n, NameKind.cell) else (n, k0)) :: _) = some k := h
    by_cases hc : (k0 == NameKind.free && env.scope.kind == .function && env.kindOf n == some .cell) = true
    · rw [if_pos hc, List.lookup_cons] at h
      rw [List.lookup_cons]
      cases hx : x == n with
      | true =>
        rw [hx] at h
        simp only at h
        cases h
        have : k0 = .free := by
          simp only [Bool.and_eq_true, beq_iff_eq] at hc
          exact hc.1.1
        subst this
        exact ⟨_, rfl, .inr ⟨rfl, rfl⟩⟩
      | false =>
        rw [hx] at h
        exact ih h
    · rw [if_neg hc, List.lookup_cons] at h
      rw [List.lookup_cons]
      cases hx : x == n with
      | true =>
        rw [hx] at h
        simp only at h
        cases h
        exact ⟨_, rfl, .inl rfl⟩
      | false =>
        rw [hx] at h
        exact ih h
section
variable {X : Cx} {pins : List (Addr × Obj)} {σ : St} {H : Hp} {s : Shared} {N : List Str} {sel : List (Option Nat)} {sc : Scope} {fp : List Addr}
theorem Blk.freeAt (B : Blk X N sel sc) : ∀ y ∈ sc.names, y.2 = .free → (X.env.kindOf y.1 = some .cell ∨ X.env.kindOf y.1 = some .free) := fun y hy hf => by
  have h := List.all_eq_true.mp B.free y hy
  rw [hf] at h
  simpa using h
theorem Blk.has (B : Blk X N sel sc) (ok : X.Ok) : ∀ y ∈ sc.names, y.2 = .free → ∃ c, X.env.cells.lookup y.1 = some c := fun y hy hf => ok.has _ (B.freeAt y hy hf)
theorem Blk.sub (_ : Blk X N sel sc) : ∀ x c, (clOf X.env sc.names []).lookup x = some c → X.env.cells.lookup x = some c := clOf_sub fun _ _ e => by simp at e
theorem mem_lookup {names : List (Str × NameKind)} {x : Str} {k : NameKind} (h : names.lookup x = some k) : (x, k) ∈ names := PySem.mem_of_lookup h
theorem blk_start (B : Blk X N sel sc) (I : Inv X pins σ H s) (hfp : ∀ x ∈ fp, FpOk X pins H x) (hobj : ∀ x ∈ fp, ∃ o, s.heap.get? x = some o) {h' : Heap} {tk : Nat} {d : Obj}
    (hn : h'.Ns s.heap.objs.size fun _ => none) (sb : Heap.SameBut s.heap.objs.size (s.heap.push d) h') :
    Inv (blk X N sc ⟨fp, pins, s, H, s.heap.objs.size⟩) [] (capt σ sel) H { s with heap := h', toks := tk } := by
  have kept : ∀ b o, s.heap.get? b = some o → h'.get? b = some o := fun b o e => (sb.2 b (Nat.ne_of_lt (Heap.lt_size e))).trans (Heap.get?_push_of_some _ e)
  have hasb : ∀ x, ((relabel sc X.env).names.lookup x = some .cell ∨ (relabel sc X.env).names.lookup x = some .free) → (x, NameKind.free) ∈ sc.names := fun x hx => by
    have nocell : ∀ z, sc.names.lookup z ≠ some .cell := fun z e => by
      have := List.all_eq_true.mp B.nocell _ (mem_lookup e)
      simp at this
    rcases hx with hx | hx
    · obtain ⟨k', e, q | ⟨q, _⟩⟩ := lookup_relabel_kind hx
      · subst q; exact absurd e (nocell x)
      · subst q; exact mem_lookup e
    · obtain ⟨k', e, q | ⟨_, q⟩⟩ := lookup_relabel_kind hx
      · subst q; exact mem_lookup e
      · cases q
  refine ⟨⟨I.ok.mod, B.kind, I.ok.glob, I.ok.blt, Nat.le_refl _, fun x y c h1 h2 => I.ok.inj x y c (B.sub x c h1) (B.sub y c h2), fun x hx => ?_, fun x c hf _ => (by cases hf), I.ok.hd, I.ok.frames, .inl rfl, fun b hb => ?_, I.bs, Nat.le_trans I.ok.bsz I.sz, fun b o e hb => ?_, fun b hb hs => ?_, I.stack, I.stkFree⟩,
    rfl, I.bare, Un.kept kept, ⟨_, hn, fun i x v h1 h2 h3 => ?_⟩, fun x c e => ?_, I.fresh, fun x c e => I.freeC x c (B.sub x c e), fun p hp => ?_, I.hok.kept kept, ?_⟩
  · have hm := hasb x hx
    exact clOf_has hm (B.has I.ok _ hm rfl)
  · obtain ⟨o, e⟩ := hobj b hb
    exact ⟨Nat.ne_of_lt (Heap.lt_size e), fun x c hc => (hfp b hb).2.2.2.2.1 x c (B.sub x c hc)⟩
  · rcases (hfp b hb).2.2.2.1 with z | z
    · exact I.ok.noex b o e z
    · exact absurd (Nat.lt_of_lt_of_le (Heap.lt_size (I.ok.bs b o e).1) z) (Nat.lt_irrefl _)
  · have := I.stkSub b hs
    rcases List.mem_cons.mp this with z | z
    · exact (hfp b hb).2.1 z
    · exact (hfp b hb).2.2.1 z
  ·
    have h1 : N[i]? = some x := h1
    unfold capt at h2
    rw [List.getElem?_map] at h2
    cases hs : sel[i]? with
    | none => rw [hs] at h2; cases h2
    | some o =>
      rw [hs] at h2
      cases o with
      | none => cases h2
      | some j =>
        have h2 : (σ[j]?).join = some v := Option.some.inj h2
        have hz : (x, some j) ∈ N.zip sel := by
          rw [List.mem_iff_getElem?]
          exact ⟨i, by rw [List.getElem?_zip_eq_some]; exact ⟨h1, hs⟩⟩
        have hq := List.all_eq_true.mp B.sel _ hz
        simp only [Bool.and_eq_true, beq_iff_eq] at hq
        obtain ⟨hj, hlk⟩ := hq
        have hm := mem_lookup hlk
        have hσ : σ[j]? = some (some v) := by
          cases e : σ[j]? with
          | none => rw [e] at h2; cases h2
          | some a => rw [e] at h2; cases a with
            | none => cases h2
            | some a => exact congrArg some h2
        have hk := B.freeAt _ hm rfl
        obtain ⟨m, _, hl⟩ := I.loc
        obtain ⟨u, r, lk⟩ := hl j x v hj hσ (hk.elim (fun e => .inr (.inl e)) fun e => .inr (.inr e))
        refine ⟨u, r, .inr ⟨?_, ?_⟩⟩
        · have h3 : (relabel sc X.env).names.lookup x = some .local ∨ (relabel sc X.env).names.lookup x = some .cell ∨ (relabel sc X.env).names.lookup x = some .free := h3
          rcases h3 with h3 | h3 | h3
          · obtain ⟨k', e, q | ⟨_, q⟩⟩ := lookup_relabel_kind h3
            · subst q
              rw [hlk] at e
              cases e
            · cases q
          · exact .inl h3
          · exact .inr h3
        · rcases lk with ⟨k, _⟩ | ⟨_, c, e, z⟩
          · rcases hk with q | q <;> (rw [q] at k; cases k)
          · obtain ⟨c', e'⟩ := clOf_has (acc := []) hm ⟨c, e⟩
            have : c' = c := Option.some.inj ((B.sub x c' e').symm.trans e)
            subst this
            exact ⟨c', e', z.keeps kept⟩
  · obtain ⟨v, z⟩ := I.cell x c (B.sub x c e)
    exact ⟨v, z.keeps kept⟩
  · have hp : p ∈ X.pn ++ pins := by simpa [blk] using hp
    obtain ⟨e, n, ne, nf, d⟩ := I.pin p hp
    refine ⟨kept _ _ e, n, Nat.ne_of_lt (Heap.lt_size e), fun z => ?_, d⟩
    rcases List.mem_cons.mp (I.stkSub _ z) with q | q
    · exact ne q
    · exact nf q
  · unfold capt
    rw [List.length_map]
    exact B.len
theorem blk_end {b : BA} {σ' : St} {H5 : Hp} {s5 : Shared} {h' : Heap} (I3 : Inv X b.pins σ b.H b.s) (hfp : ∀ x ∈ b.fp, FpOk X b.pins b.H x) (I5 : Inv (blk X N sc b) [] σ' H5 s5)
    (sb : Heap.SameBut b.C s5.heap h') : Inv X b.pins σ H5 { s5 with heap := h' } := by
  have hC : b.s.heap.objs.size ≤ b.C := I5.ok.above
  have ne : ∀ c o, b.s.heap.get? c = some o → c ≠ b.C := fun c o e => Nat.ne_of_lt (Nat.lt_of_lt_of_le (Heap.lt_size e) hC)
  have u : Un (frs X.stack) b.fp b.H H5 b.s.heap s5.heap := I5.base
  have hn : H5 b.C = none := I5.free
  refine I3.call' (s' := { s5 with heap := h' }) (ch := b.fp) I5.os ⟨fun c o e n hb hx => (sb.2 c (ne c o e)).trans (u.keep c o e n hb hx), fun c o e n hb hx => ?_, u.free, fun c o e hx => ?_, u.tups, u.frzs, u.tbls⟩ (fun a o e => ?_) I5.bare
    fun x hx => ⟨(hfp x hx).2.2.2.1, (hfp x hx).2.1, (hfp x hx).2.2.2.2.1, (hfp x hx).2.2.2.2.2⟩
  · obtain ⟨sl, q⟩ := u.slot c o e n hb hx
    exact ⟨sl, (sb.2 c (ne c o e)).trans q⟩
  · obtain ⟨o', q⟩ := u.there c o e hx
    exact ⟨o', (sb.2 c (ne c o e)).trans q⟩
  · refine (I5.hok a o e).stay (fun c w' hc q => (sb.2 c ?_).trans q) (fun _ q => q) fun _ _ q => q
    rintro rfl
    rcases hc with z | z
    · rw [← z, hn] at e; cases e
    · rw [hn] at z; cases z
end
noncomputable def PTs (X : Cx) (ifs : List Expr) (t : TT) : Prop :=
  ∀ (pins : List (Addr × Obj)) (s : Shared) (σ : St) (H : Hp) (Q : Bool → Hp → Prop), Inv X pins σ H s → t σ H Q →
    wpAny (model X.prog X.w) X.A (forIn ifs true fun c r => if r = true then do let ok ← isTrue c X.env (eval c X.env); pure (ForInStep.yield ok) else pure (ForInStep.yield r)) (TP X pins σ Q) X.xe s
noncomputable def tTrue : TT := fun _ H Q => Q true H
theorem pts_nil {X : Cx} : PTs X [] tTrue := fun pins s σ H Q I h => wpAny_tests_nil ⟨H, I, h⟩
noncomputable def tLC (wi : TI) (g : TG) (ts : TT) (te : TE) (sel : List (Option Nat)) : TE := fun σ H Q => wi σ H fun J H1 => ∀ acc, H1 acc = none →
  ∃ W : Nat → Nat → St → Hp → Prop, (∃ m, W 0 m (capt σ sel) (upd H1 acc (.lst []))) ∧ ∀ i m σ H, W i m σ H →
    (J.stop i H ∧ Q (.ref acc) H) ∨ (J.go i H ∧ ∃ N : St → Hp → Prop, (∀ σ' H', N σ' H' → ∃ m', m' < m ∧ W (i + 1) m' σ' H') ∧ ∀ x H', J.yld i H x H' → g x σ H' fun σ2 H2 =>
      ts σ2 H2 fun c H3 => if c = true then te σ2 H3 fun v H4 => ∃ ys, H4 acc = some (.lst ys) ∧ ys.length < sizeLine ∧ N σ2 (upd H4 acc (.lst (ys ++ [v]))) else N σ2 H3)
section
variable {X : Cx} {tg iter elt : Expr} {ifs : List Expr} {sc : Scope} {pos : Pos} {wi : TI} {g : TG} {ts : TT} {te : TE} {N : List Str} {sel : List (Option Nat)}
theorem thnF {α : Type} {t : Sem α} {Q Q' : α → Shared → Prop} {M : Model} {A : Around} {E : Value → Shared → Prop} {s : Shared} (h : wpAny M A t Q (fun _ _ => False) s) (hQ : ∀ a s, Q a s → Q' a s) : wpAny M A t Q' E s :=
  wpAny_mono h hQ fun _ _ f => f.elim
theorem comp_blk {pins : List (Addr × Obj)} {σ : St} {H3 : Hp} {s3 : Shared} {acc it : Addr} {fp : List Addr} {tn : Nat → Heap → Prop} {J : It} {RR : Addr → Result → Shared → Prop} {QQ : Hp → Prop} {W : Nat → Nat → St → Hp → Prop} {m0 : Nat} (B : Blk X N sel sc) (hc : X.calm = true)
    (hg : ∀ b, PG (blk X N sc b) tg g) (ht : ∀ b, PTs (blk X N sc b) ifs ts) (he : ∀ b, PE (blk X N sc b) elt te) (I3 : Inv X pins σ H3 s3) (T : Turn X.prog X.w X.K tg J fp it tn) (st3 : tn 0 s3.heap) (f3 : ∀ b ∈ fp, FpOk X pins H3 b)
    (w0 : W 0 m0 (capt σ sel) H3)
    (turn : ∀ i m σ H, W i m σ H → (J.stop i H ∧ QQ H) ∨ (J.go i H ∧ ∃ N : St → Hp → Prop, (∀ σ' H', N σ' H' → ∃ m', m' < m ∧ W (i + 1) m' σ' H') ∧ ∀ x H', J.yld i H x H' → g x σ H' fun σ2 H2 =>
      ts σ2 H2 fun c H3 => if c = true then te σ2 H3 fun v H4 => ∃ ys, H4 acc = some (.lst ys) ∧ ys.length < sizeLine ∧ N σ2 (upd H4 acc (.lst (ys ++ [v]))) else N σ2 H3))
    (hRR : ∀ C H5 s5 m, s5.heap.Ns C m → (∀ h', Heap.SameBut C s5.heap h' → Inv X pins σ H5 { s5 with heap := h' }) → H5 C = none → C ≠ X.env.locals → (∀ x c, X.env.cells.lookup x = some c → c ≠ C) → X.s₀.heap.objs.size ≤ C → (∀ p ∈ X.pn ++ pins, p.1 ≠ C) → QQ H5 → RR C (.ok .next) s5) :
    wpAny (model X.prog X.w) X.A (newFunctionEnv sc X.env.globals (clOf X.env sc.names []) [] X.env.qual none .none (some X.env)) (fun cenv s4 =>
        codeAny (model X.prog X.w) X.A (.compStart (.ListComp elt [⟨tg, iter, ifs, 0⟩] sc pos) 0 (.ref it) (.ref acc) { cenv with scope := relabel sc X.env }) (RR cenv.locals) s4) X.xe s3 := by
  refine wpAny_newFunctionEnv (fun y hy z => ?_) (by intro y hy; simp at hy) (fun h4 hn4 sb4 => ?_) B.kind
  · have := List.all_eq_true.mp B.nocell y hy
    rw [z] at this
    simp at this
  have ob3 : ∀ b ∈ fp, ∃ o, s3.heap.get? b = some o := fun b hb => by
    obtain ⟨o, e, _⟩ := T.obj _ _ st3 b hb
    exact ⟨o, e⟩
  have kept : ∀ b o, s3.heap.get? b = some o → h4.get? b = some o := fun b o e => (sb4.2 b (Nat.ne_of_lt (Heap.lt_size e))).trans (Heap.get?_push_of_some _ e)
  have st4 : tn 0 h4 := T.keep _ _ _ st3 fun b hb o e => kept b o e
  have I4 := blk_start (tk := s3.toks + ([] : List (Str × Value)).length) B I3 f3 ob3 (by simpa using hn4) sb4
  generalize hb : (⟨fp, pins, s3, H3, s3.heap.objs.size⟩ : BA) = b at I4
  have bfp : b.fp = fp := by rw [← hb]
  have bpins : b.pins = pins := by rw [← hb]
  have bs : b.s = s3 := by rw [← hb]
  have bH : b.H = H3 := by rw [← hb]
  have bC : b.C = s3.heap.objs.size := by rw [← hb]
  have fpb : ∀ {H' : Hp}, (∀ x ∈ fp, H' x = none) → ∀ x ∈ fp, FpOk (blk X N sc b) [] H' x := fun {H'} hn x hx => by
    refine ⟨hn x hx, ?_, fun z => ?_, .inl ?_, fun y c e => (f3 x hx).2.2.2.2.1 y c (B.sub y c e), fun p hp => ?_⟩
    · show x ≠ b.C
      rw [bC]
      obtain ⟨o, e⟩ := ob3 x hx
      exact Nat.ne_of_lt (Heap.lt_size e)
    · rcases List.mem_cons.mp (I3.stkSub x z) with q | q
      · exact (f3 x hx).2.1 q
      · exact (f3 x hx).2.2.1 q
    · show x ∈ b.fp
      rw [bfp]; exact hx
    · have hp : p ∈ X.pn ++ b.pins := by simpa [blk] using hp
      rw [bpins] at hp
      exact (f3 x hx).2.2.2.2.2 p hp
  have loop : ∀ s5 : Shared, s5 = { s3 with heap := h4, toks := s3.toks + ([] : List (Str × Value)).length } →
      codeAny (model X.prog X.w) X.A (.compLoop (.ListComp elt [⟨tg, iter, ifs, 0⟩] sc pos) 0 (.ref it) (.ref acc) (blk X N sc b).env) (RR s3.heap.objs.size) s5 := by
    rintro s5 rfl
    refine codeAny_loop rfl (fun n s' => ∃ i σ' H', Inv (blk X N sc b) [] σ' H' s' ∧ tn i s'.heap ∧ (∀ x ∈ fp, H' x = none) ∧ W i n σ' H') (fun n s6 hI => ?_) m0 ⟨0, _, _, I4, st4, fun x hx => (f3 x hx).1, w0⟩
    obtain ⟨i, σ6, H6, I6, st6, fr6, w6⟩ := hI
    show wpAny _ X.A ((compTurn (.ListComp elt [⟨tg, iter, ifs, 0⟩] sc pos) 0 (.ref it) (.ref acc) (blk X N sc b).env).onRaise (fun x => do noteFrame x (blk X N sc b).env; theTreesLotGoes x)) _ _ s6
    refine wpAny_noted ?_
    rw [compTurn_list]
    rcases turn i n σ6 H6 w6 with ⟨stop, qn⟩ | ⟨go, NN, hNN, step⟩
    · refine wpAny_bind (wpAny_standAt (wpAny_bind (thnF (T.done (blk X N sc b) rfl rfl rfl hc i [] s6 σ6 H6 _ I6 (fpb fr6) st6 stop) fun r s7 ⟨hr, I7⟩ => ?_)))
      subst hr
      refine wpAny_pure ?_
      obtain ⟨m7, hn7, _⟩ := I7.loc
      have hn7 : s7.heap.Ns b.C m7 := hn7
      have I3' : Inv X b.pins σ b.H b.s := by rw [bpins, bH, bs]; exact I3
      refine hRR _ H6 s7 m7 (by rw [← bC]; exact hn7) (fun h' sb => ?_) (by rw [← bC]; exact I7.free) ?_ (fun x c e z => ?_) I3.sz (fun p hp => Nat.ne_of_lt (Heap.lt_size (I3.pin p hp).1)) qn
      · rw [← bC] at sb
        have := blk_end (b := b) I3' (fun x hx => by rw [bfp] at hx; rw [bpins, bH]; exact f3 x hx) I7 sb
        rw [bpins] at this
        exact this
      · exact Ne.symm (Nat.ne_of_lt I3.lt)
      · obtain ⟨v, o, ho, _⟩ := I3.cell x c e
        rw [z] at ho
        exact absurd (Heap.lt_size ho) (Nat.lt_irrefl _)
    · refine wpAny_bind (wpAny_standAt (wpAny_bind (thnF (T.item (blk X N sc b) rfl rfl rfl hc i [] s6 σ6 H6 _ I6 (fpb fr6) st6 go) fun r s7 ⟨u, hr, h7⟩ => ?_)))
      subst hr
      refine wpAny_bind (thnF h7 fun _ s8 ⟨x, H8, I8, r8, y8, st8, fr8⟩ => ?_)
      have I8' := I8.pinned (fpb fr8) (T.obj _ _ st8)
      refine wpAny_bind (thnF (hg b _ s8 σ6 H8 x u _ I8' r8 (step x H8 y8)) fun _ s9 ⟨σ9, H9, I9, q9⟩ => ?_)
      refine wpAny_bind (thnF (ht b _ s9 σ9 H9 _ I9 q9) fun ok s10 ⟨H10, I10, q10⟩ => ?_)
      have again : ∀ {sA : Shared} {σ7 : St} {H7 : Hp}, Inv (blk X N sc b) ([] ++ pinsAt fp s8.heap) σ7 H7 sA → NN σ7 H7 → ∃ m, m < n ∧ ∃ i σ' H', Inv (blk X N sc b) [] σ' H' sA ∧ tn i sA.heap ∧ (∀ x ∈ fp, H' x = none) ∧ W i m σ' H' := fun {sA σ7 H7} I7 n7 => by
        obtain ⟨m', hm, w7⟩ := hNN σ7 H7 n7
        refine ⟨m', hm, i + 1, σ7, H7, I7.unpinned, T.keep _ _ _ st8 fun b hb o e => (I7.pin (b, o) (List.mem_append_right _ (List.mem_append_right _ (mem_pinsAt hb e)))).1, fun b hb => ?_, w7⟩
        obtain ⟨o, e, d⟩ := T.obj _ _ st8 b hb
        exact (I7.pin (b, o) (List.mem_append_right _ (List.mem_append_right _ (mem_pinsAt hb e)))).2.1
      cases ok with
      | false =>
        exact wpAny_pure ⟨rfl, again I10 q10⟩
      | true =>
        have q10 : te σ9 H10 _ := q10
        refine wpAny_bind (wpAny_bind (thnF (he b _ s10 σ9 H10 _ I10 q10) fun u' s11 ⟨v, H11, I11, r11, ys, ha, hz, nn⟩ => ?_))
        refine wpAny_bind (thnF (mt_append (X := blk X N sc b) _ s11 σ9 H11 (.ref acc) [v] (.ref acc) [u'] (fun _ H12 => NN σ9 H12) I11 rfl (.cons r11 .nil) ⟨_, ys, v, rfl, rfl, ha, hz, nn⟩) fun _ s12 ⟨_, H12, I12, _, n12⟩ => ?_)
        exact wpAny_pure (wpAny_pure ⟨rfl, again I12 n12⟩)
  have env_eq : (blk X N sc b).env = compEnvC sc (clOf X.env sc.names []) s3.heap.objs.size X.env := by
    show compEnvC sc (clOf X.env sc.names []) b.C X.env = _
    rw [bC]
  show codeAny (model X.prog X.w) X.A (.compStart (.ListComp elt [⟨tg, iter, ifs, 0⟩] sc pos) 0 (.ref it) (.ref acc) (compEnvC sc (clOf X.env sc.names []) s3.heap.objs.size X.env)) (RR s3.heap.objs.size) _
  rw [← env_eq]
  exact codeAny_compStart_list (loop _ rfl) (T.self _ _ _ _ _ st4 (loop _ rfl))
theorem comp_run {pins : List (Addr × Obj)} {s : Shared} {σ : St} {H : Hp} {Q : VK} {RR : Value → Addr → Result → Shared → Prop} (B : Blk X N sel sc) (hc : X.calm = true)
    (hi : PI X tg iter wi) (hg : ∀ b, PG (blk X N sc b) tg g) (ht : ∀ b, PTs (blk X N sc b) ifs ts) (he : ∀ b, PE (blk X N sc b) elt te) (I : Inv X pins σ H s) (h : tLC wi g ts te sel σ H Q)
    (hRR : ∀ acc C H5 s5 m, s5.heap.Ns C m → (∀ h', Heap.SameBut C s5.heap h' → Inv X pins σ H5 { s5 with heap := h' }) → H5 C = none → C ≠ X.env.locals → (∀ x c, X.env.cells.lookup x = some c → c ≠ C) → X.s₀.heap.objs.size ≤ C → (∀ p ∈ X.pn ++ pins, p.1 ≠ C) → Q (.ref acc) H5 → RR (.ref acc) C (.ok .next) s5) :
    wpAny (model X.prog X.w) X.A (eval iter X.env) (fun v s1 => wpAny (model X.prog X.w) X.A (pyIter v) (fun it s2 => wpAny (model X.prog X.w) X.A (newList []) (fun acc s3 =>
      wpAny (model X.prog X.w) X.A (newFunctionEnv sc X.env.globals (clOf X.env sc.names []) [] X.env.qual none .none (some X.env)) (fun cenv s4 =>
        codeAny (model X.prog X.w) X.A (.compStart (.ListComp elt [⟨tg, iter, ifs, 0⟩] sc pos) 0 it acc { cenv with scope := relabel sc X.env }) (RR acc cenv.locals) s4) X.xe s3) X.xe s2) X.xe s1) X.xe s := by
  refine thn (hi pins s σ H _ I h) fun v s1 h1 => thn h1 fun itv s2 h2 => ?_
  obtain ⟨it, fp, tn, J, H2, e, I2, T, st2, f2, q⟩ := h2
  subst e
  obtain ⟨W, ⟨m0, w0⟩, turn⟩ := q _ I2.fresh
  have I3 : Inv X pins σ (upd H2 s2.heap.objs.size (.lst [])) { s2 with heap := s2.heap.push { cls := .type "list", data := .seq ([] : List Value).toArray }, toks := s2.toks } := I2.lnew (ys := []) (its := []) (t' := s2.toks) .nil (Nat.zero_le _)
  have fne : ∀ b ∈ fp, b ≠ s2.heap.objs.size := fun b hb => by
    obtain ⟨o, e, _⟩ := T.obj _ _ st2 b hb
    exact Nat.ne_of_lt (Heap.lt_size e)
  have f3 : ∀ b ∈ fp, FpOk X pins (upd H2 s2.heap.objs.size (.lst [])) b := fun b hb => ⟨by rw [upd_ne (fne b hb)]; exact (f2 b hb).1, (f2 b hb).2⟩
  refine wpAny_newObj_type ?_
  exact comp_blk (QQ := Q (.ref s2.heap.objs.size)) (RR := fun C => RR (.ref s2.heap.objs.size) C) B hc hg ht he I3 T (T.keep _ _ _ st2 fun b hb o e => Heap.get?_push_of_some _ e) f3 w0 turn fun C H5 s5 m => hRR _ C H5 s5 m
theorem pe_lc (B : Blk X N sel sc) (hc : X.calm = true) (hi : PI X tg iter wi) (hg : ∀ b, PG (blk X N sc b) tg g) (ht : ∀ b, PTs (blk X N sc b) ifs ts) (he : ∀ b, PE (blk X N sc b) elt te)
    (hs : ∀ x, foldedSetIterable iter X.env x = pure x := by intro _; rfl) : PE X (.ListComp elt [⟨tg, iter, ifs, 0⟩] sc pos) (tLC wi g ts te sel) := by
  intro pins s σ H Q I h
  rw [eval_ListComp]
  refine wpAny_comprehension_free (use := none) (cl := clOf X.env sc.names []) rfl hs (closureFor_eq (B.has I.ok)) B.kind (fun y hy hl => ?_) ?_
  · have := List.all_eq_true.mp B.names y hy
    rw [hl] at this
    simpa using this
  · refine comp_run (RR := fun acc C => compPost (model X.prog X.w) X.A X.xe none (EP X pins σ Q) acc C) B hc hi hg ht he I h ?_
    intro acc C H5 s5 m hn hI _ _ _ _ _ q
    exact ⟨m, hn, fun h' sb => ⟨.ref acc, H5, hI h' sb, rfl, q⟩⟩
theorem ps_setC {i : Nat} {x : Str} {pos' spos : Pos} (B : Blk X N sel sc) (hc : X.calm = true) (hN : X.N.Nodup) (hx : X.N[i]? = some x) (hl : X.env.scope.names.lookup x = some .local) (hi : PI X tg iter wi)
    (hg : ∀ b, PG (blk X N sc b) tg g) (ht : ∀ b, PTs (blk X N sc b) ifs ts) (he : ∀ b, PE (blk X N sc b) elt te)
    (hsw : swapsWith (.ListComp elt [⟨tg, iter, ifs, 0⟩] sc pos) (some (.Name x pos')) spos.line X.env = pure true := by rfl)
    (hs : ∀ x, foldedSetIterable iter X.env x = pure x := by intro _; rfl) : PS X (.Assign [.Name x pos'] (.ListComp elt [⟨tg, iter, ifs, 0⟩] sc pos) spos) (tAsg (tLC wi g ts te sel) (gName i)) := by
  intro pins s σ H D I h
  rw [exec_Assign_Name_used _ _ _ _ hsw]
  refine wpAny_bind (wpAny_standAt (wpAny_bind ?_))
  show wpAny _ X.A (do let _ ← comprehension (.ListComp elt [⟨tg, iter, ifs, 0⟩] sc pos) sc X.env _ (newList []) false (eval iter X.env) (some (assign (.Name x pos') X.env))) _ _ s
  refine wpAny_bind (thn (Q := fun _ s' => SP X pins D .next s') (wpAny_comprehension_free (use := some (assign (.Name x pos') X.env)) (cl := clOf X.env sc.names []) rfl hs (closureFor_eq (B.has I.ok)) B.kind (fun y hy hl => ?_) ?_)
    fun _ s' hq => wpAny_pure (wpAny_pure hq))
  · have := List.all_eq_true.mp B.names y hy
    rw [hl] at this
    simpa using this
  · refine comp_run (RR := fun acc C => compPost (model X.prog X.w) X.A X.xe (some (assign (.Name x pos') X.env)) (fun _ s' => SP X pins D .next s') acc C) B hc hi hg ht he I h ?_
    intro acc C H5 s5 m hn hI hC hCl hCc hCz hCp q
    have q : D.nx (σ.set i (some (.ref acc))) H5 := q
    have I5 : Inv X pins σ H5 s5 := hI s5.heap (.refl ..)
    refine wpAny_assign_Name (store_ok2 I5 hN hx (.inl hl) (show RelV (.ref acc) (.ref acc) from rfl) (fun s6 I6 ⟨a, sa, ha⟩ => ?_) (.inr hl))
    have neC : C ≠ a := by
      rcases ha with ha | ha
      · rw [ha]; exact hCl
      · exact fun z => hCc x a ha z.symm
    refine ⟨m, hn.sameBut sa neC, fun h' sb => ?_⟩
    refine ⟨_, H5, ?_, q⟩
    exact I6.turned (t' := s6.toks) (fun b o hb e => (sb.2 b hb).trans e) hC hCl (.inr hCz) hCc hCp
end
end L2
namespace L2
open PySem PySem.Spec PyProof.Rows
noncomputable def excP (C a : Addr) : Heap → Prop := fun h => ∃ o, h.get? a = some o ∧ o.cls = .ref C
end L2
namespace DL
open PySem PySem.Spec PyProof.Rows L2
noncomputable abbrev St := L2.St
inductive D where
  | non | bl (b : Bool) | int (i : Int) | str (x : Str) | tup (xs : List D) | lst (xs : List D)
  | scr (ns : List Int)
  | exc (c : Str)
  | key (r : Str) (n : Int)
  | obj (ks : List (Str × Int)) (vs as bs : List D)
inductive Sl where
  | no | sh (d : D) | ow (ds : List D)
  | nw (xss : List (List D))
  | dc (ks : List Int) (vs : List D)
  | ob (ks : List (Str × Int)) (vs as bs : List D)
noncomputable abbrev DSt := List Sl
inductive DV where
  | val (d : D) | slot (i : Nat) | own (ds : List D)
  | fld (i j : Nat)
inductive Rs (α : Type) where
  | un | er (c : Str) | ok (a : α) (δ : DSt)
noncomputable abbrev DM (α : Type) := DSt → Rs α
noncomputable def DM.ret {α : Type} (a : α) : DM α := fun δ => .ok a δ
noncomputable def DM.bd {α β : Type} (f : DM α) (g : α → DM β) : DM β := fun δ => match f δ with | .un => .un | .er c => .er c | .ok a δ' => g a δ'
noncomputable abbrev Om := Addr → Option Nat
noncomputable def ShL (H : Hp) (Ω : Om) (a : Addr) (xs : List V) : Prop := Rd H a (.lst xs) ∧ Ω a = none
noncomputable def KL (K : PySem.W.Frag) (H : Hp) (a : Addr) (xs : List V) : Prop := (∃ o, H a = some (.frz o (.lst xs))) ∨
  ∃ (o : Obj) (its : Array Value) (n : Nat), K.lookup a = some o ∧ o.cls = .type "list" ∧ o.dict = none ∧ o.data = .seq its n ∧ its.size ≤ sizeLine ∧ Vals xs its.toList
theorem KL.sq {K : PySem.W.Frag} {H : Hp} {a : Addr} {xs : List V} (h : KL K H a xs) : SqL K H a xs := h.elim (fun ⟨o, z⟩ => .inl (.inr ⟨o, z⟩)) .inr
noncomputable def keyL (p : Str × Int) : List Key := [.inr p.1, .inl p.2]
noncomputable def BedAt (K : PySem.W.Frag) (H : Hp) (p a1 a2 a3 : Addr) : Prop := ∃ C dx, PySem.W.nsIn K mainGlobals "Bed" = some (some (.ref C)) ∧ H p = some (.ins C dx [("borne", .ref a1), ("knitted", .ref a2), ("past", .ref a3)])
mutual
noncomputable def Rep (K : PySem.W.Frag) (H : Hp) (Ω : Om) : D → V → Prop
  | .non, v => v = .non
  | .bl b, v => v = .bl b
  | .int i, v => v = .int i
  | .str x, v => v = .str x
  | .tup ds, v => ∃ a vs, v = .ref a ∧ SqT K H a vs ∧ Reps K H Ω ds vs
  | .lst ds, v => ∃ a vs, v = .ref a ∧ ShL H Ω a vs ∧ Reps K H Ω ds vs
  | .scr ns, v => ∃ a, v = .ref a ∧ KL K H a (ns.map V.int)
  | .exc c, v => ∃ a C, v = .ref a ∧ PySem.W.nsIn K mainGlobals c = some (some (.ref C)) ∧ H a = some (.ext (excP C a))
  | .key r n, v => ∃ a, v = .ref a ∧ H a = some (.tup [.str r, .int n])
  | .obj ks vs as bs, v => ∃ p a1 a2 a3 kvs xs ys, v = .ref p ∧ BedAt K H p a1 a2 a3 ∧ (H a1 = some (.dT kvs) ∧ Ω a1 = none) ∧ (H a2 = some (.lst xs) ∧ Ω a2 = none) ∧ (H a3 = some (.lst ys) ∧ Ω a3 = none) ∧ kvs.map (·.1) = ks.map keyL ∧ Reps K H Ω vs (kvs.map (·.2)) ∧ Reps K H Ω as xs ∧ Reps K H Ω bs ys
noncomputable def Reps (K : PySem.W.Frag) (H : Hp) (Ω : Om) : List D → List V → Prop
  | [], vs => vs = []
  | d :: ds, vs => ∃ v r, vs = v :: r ∧ Rep K H Ω d v ∧ Reps K H Ω ds r
end
noncomputable def fixO : HO → Bool
  | .lst _ => false
  | .dK _ => false
  | .dT _ => false
  | _ => true
structure Ext (H : Hp) (Ω : Om) (H' : Hp) (Ω' : Om) : Prop where
  keep : ∀ b o, H b = some o → (fixO o = true ∨ Ω b = none ∨ Ω b = some 0) → H' b = some o
  new : ∀ b, Ω b = none → H b ≠ none → Ω' b = none
  fr : ∀ b, Ω b = some 0 ↔ Ω' b = some 0
  live : ∀ b, H' b = none → H b = none
section
variable {K : PySem.W.Frag} {H H1 H2 H' : Hp} {Ω Ω1 Ω2 Ω' : Om}
theorem Ext.refl : Ext H Ω H Ω := ⟨fun _ _ e _ => e, fun _ e _ => e, fun _ => Iff.rfl, fun _ e => e⟩
theorem Ext.trans (a : Ext H Ω H1 Ω1) (b : Ext H1 Ω1 H2 Ω2) : Ext H Ω H2 Ω2 where
  keep := fun x o e h => b.keep x o (a.keep x o e h) (h.imp_right fun z => z.imp (fun z => a.new x z (by rw [e]; exact Option.some_ne_none _)) fun z => (a.fr x).mp z)
  new := fun x e h => b.new x (a.new x e h) fun z => h (a.live x z)
  fr := fun x => (a.fr x).trans (b.fr x)
  live := fun x e => a.live x (b.live x e)
theorem Rd.ext {a : Addr} {u : HO} (e : Ext H Ω H' Ω') (h : Rd H a u) (hq : fixO u = true ∨ Ω a = none) : Rd H' a u := by
  rcases h with h | ⟨o, h⟩
  · exact .inl (e.keep a _ h (hq.imp_right .inl))
  · exact .inr ⟨o, e.keep a _ h (.inl rfl)⟩
theorem SqT.ext {a : Addr} {xs : List V} (e : Ext H Ω H' Ω') (h : SqT K H a xs) : SqT K H' a xs :=
  h.imp (fun z => Rd.ext e z (.inl rfl)) id
theorem Rd.some {a : Addr} {u : HO} (h : Rd H a u) : H a ≠ none := by
  rcases h with h | ⟨o, h⟩ <;> rw [h] <;> exact Option.some_ne_none _
theorem ShL.ext {a : Addr} {xs : List V} (e : Ext H Ω H' Ω') (h : ShL H Ω a xs) : ShL H' Ω' a xs :=
  ⟨Rd.ext e h.1 (.inr h.2), e.new a h.2 (Rd.some h.1)⟩
theorem BedAt.ext {p a1 a2 a3 : Addr} (e : Ext H Ω H' Ω') (h : BedAt K H p a1 a2 a3) : BedAt K H' p a1 a2 a3 := by
  obtain ⟨C, dx, h1, h2⟩ := h
  exact ⟨C, dx, h1, e.keep p _ h2 (.inl rfl)⟩
theorem Ext.nn {a : Addr} {o : HO} (e : Ext H Ω H' Ω') (h : H a = some o ∧ Ω a = none) : H' a = some o ∧ Ω' a = none := ⟨e.keep a _ h.1 (.inr (.inl h.2)), e.new a h.2 (by rw [h.1]; exact Option.some_ne_none _)⟩
mutual
theorem Rep.ext (e : Ext H Ω H' Ω') : ∀ {d : D} {v : V}, Rep K H Ω d v → Rep K H' Ω' d v
  | .non, _, h => h
  | .bl _, _, h => h
  | .int _, _, h => h
  | .str _, _, h => h
  | .tup _, _, h => by
    obtain ⟨a, vs, e1, e2, e3⟩ := (show ∃ a vs, _ from h)
    exact (show ∃ a vs, _ from ⟨a, vs, e1, SqT.ext e e2, Reps.ext e e3⟩)
  | .lst _, _, h => by
    obtain ⟨a, vs, e1, e2, e3⟩ := (show ∃ a vs, _ from h)
    exact (show ∃ a vs, _ from ⟨a, vs, e1, ShL.ext e e2, Reps.ext e e3⟩)
  | .scr _, _, h => by
    obtain ⟨a, e1, e2⟩ := (show ∃ a, _ from h)
    exact (show ∃ a, _ from ⟨a, e1, e2.imp (fun ⟨o, z⟩ => ⟨o, e.keep a _ z (.inl rfl)⟩) id⟩)
  | .exc _, _, h => by
    obtain ⟨a, C, e1, e2, e3⟩ := (show ∃ a C, _ from h)
    exact (show ∃ a C, _ from ⟨a, C, e1, e2, e.keep a _ e3 (.inl rfl)⟩)
  | .key _ _, _, h => by
    obtain ⟨a, e1, e2⟩ := (show ∃ a, _ from h)
    exact (show ∃ a, _ from ⟨a, e1, e.keep a _ e2 (.inl rfl)⟩)
  | .obj _ _ _ _, _, h => by
    obtain ⟨p, a1, a2, a3, kvs, xs, ys, e1, e2, e3, e4, e5, e6, e7, e8, e9⟩ := (show ∃ p a1 a2 a3 kvs xs ys, _ from h)
    exact (show ∃ p a1 a2 a3 kvs xs ys, _ from ⟨p, a1, a2, a3, kvs, xs, ys, e1, e2.ext e, e.nn e3, e.nn e4, e.nn e5, e6, Reps.ext e e7, Reps.ext e e8, Reps.ext e e9⟩)
theorem Reps.ext (e : Ext H Ω H' Ω') : ∀ {ds : List D} {vs : List V}, Reps K H Ω ds vs → Reps K H' Ω' ds vs
  | [], _, h => h
  | _ :: _, _, h => by
    obtain ⟨v, r, e1, e2, e3⟩ := (show ∃ v r, _ from h)
    exact (show ∃ v r, _ from ⟨v, r, e1, Rep.ext e e2, Reps.ext e e3⟩)
end
theorem Reps.length : ∀ {ds : List D} {vs : List V}, Reps K H Ω ds vs → ds.length = vs.length
  | [], _, h => by cases (show _ = [] from h); rfl
  | _ :: _, _, h => by
    obtain ⟨v, r, e1, e2, e3⟩ := (show ∃ v r, _ from h)
    subst e1
    rw [List.length_cons, List.length_cons, Reps.length e3]
theorem Reps.nil : Reps K H Ω [] [] := rfl
theorem Reps.cons {d : D} {ds : List D} {v : V} {vs : List V} (h : Rep K H Ω d v) (r : Reps K H Ω ds vs) : Reps K H Ω (d :: ds) (v :: vs) := ⟨v, vs, rfl, h, r⟩
theorem Reps.get : ∀ {ds : List D} {vs : List V} {i : Nat} {d : D}, Reps K H Ω ds vs → ds[i]? = some d → ∃ v, vs[i]? = some v ∧ Rep K H Ω d v
  | [], _, _, _, _, e => by simp at e
  | d :: ds, _, 0, d', h, e => by
    obtain ⟨v, r, e1, e2, e3⟩ := (show ∃ v r, _ from h)
    subst e1
    have : d = d' := by simpa using e
    subst this
    exact ⟨v, rfl, e2⟩
  | _ :: ds, _, i + 1, d', h, e => by
    obtain ⟨v, r, e1, e2, e3⟩ := (show ∃ v r, _ from h)
    subst e1
    obtain ⟨w, q1, q2⟩ := Reps.get (i := i) e3 (by simpa using e)
    exact ⟨w, by simpa using q1, q2⟩
theorem Reps.append : ∀ {ds es : List D} {vs ws : List V}, Reps K H Ω ds vs → Reps K H Ω es ws → Reps K H Ω (ds ++ es) (vs ++ ws)
  | [], _, _, _, h, q => by cases (show _ = [] from h); exact q
  | _ :: _, _, _, _, h, q => by
    obtain ⟨v, r, e1, e2, e3⟩ := (show ∃ v r, _ from h)
    subst e1
    exact .cons e2 (Reps.append e3 q)
theorem Reps.drop : ∀ {ds : List D} {vs : List V} (n : Nat), Reps K H Ω ds vs → Reps K H Ω (ds.drop n) (vs.drop n)
  | _, _, 0, h => h
  | [], _, _ + 1, h => by cases (show _ = [] from h); exact .nil
  | _ :: _, _, n + 1, h => by
    obtain ⟨v, r, e1, e2, e3⟩ := (show ∃ v r, _ from h)
    subst e1
    exact Reps.drop n e3
theorem Reps.take : ∀ {ds : List D} {vs : List V} (n : Nat), Reps K H Ω ds vs → Reps K H Ω (ds.take n) (vs.take n)
  | _, _, 0, _ => .nil
  | [], _, _ + 1, h => by cases (show _ = [] from h); exact .nil
  | _ :: _, _, n + 1, h => by
    obtain ⟨v, r, e1, e2, e3⟩ := (show ∃ v r, _ from h)
    subst e1
    exact .cons e2 (Reps.take n e3)
theorem Reps.reverse : ∀ {ds : List D} {vs : List V}, Reps K H Ω ds vs → Reps K H Ω ds.reverse vs.reverse
  | [], _, h => by cases (show _ = [] from h); exact .nil
  | _ :: _, _, h => by
    obtain ⟨v, r, e1, e2, e3⟩ := (show ∃ v r, _ from h)
    subst e1
    rw [List.reverse_cons, List.reverse_cons]
    exact (Reps.reverse e3).append (.cons e2 .nil)
theorem Reps.set {d : D} {v : V} (h1 : Rep K H Ω d v) : ∀ {ds : List D} {vs : List V} (n : Nat), Reps K H Ω ds vs → Reps K H Ω (ds.set n d) (vs.set n v)
  | [], _, _, h => by cases (show _ = [] from h); exact .nil
  | _ :: _, _, 0, h => by
    obtain ⟨v, r, e1, e2, e3⟩ := (show ∃ v r, _ from h)
    subst e1
    exact .cons h1 e3
  | _ :: _, _, n + 1, h => by
    obtain ⟨v, r, e1, e2, e3⟩ := (show ∃ v r, _ from h)
    subst e1
    exact .cons e2 (Reps.set h1 n e3)
end
noncomputable def Nst (K : PySem.W.Frag) (H : Hp) (Ω : Om) (k : Nat) (xss : List (List D)) (bs : List Addr) : Prop := ∀ (j : Nat) b xs, bs[j]? = some b → xss[j]? = some xs → ∃ ws, H b = some (.lst ws) ∧ Ω b = some k ∧ Reps K H Ω xs ws
noncomputable def ObAt (K : PySem.W.Frag) (H : Hp) (Ω : Om) (k : Nat) (p : Addr) (ks : List (Str × Int)) (vs as bs : List D) : Prop := ∃ a1 a2 a3 kvs xs ys, BedAt K H p a1 a2 a3 ∧ (H a1 = some (.dT kvs) ∧ Ω a1 = some k) ∧ (H a2 = some (.lst xs) ∧ Ω a2 = some k) ∧ (H a3 = some (.lst ys) ∧ Ω a3 = some k) ∧ a2 ≠ a3 ∧ kvs.map (·.1) = ks.map keyL ∧ Reps K H Ω vs (kvs.map (·.2)) ∧ Reps K H Ω as xs ∧ Reps K H Ω bs ys
noncomputable def RepSl (K : PySem.W.Frag) (H : Hp) (Ω : Om) (i : Nat) : Sl → Option V → Prop
  | .no, _ => True
  | .sh d, o => ∃ v, o = some v ∧ Rep K H Ω d v
  | .ow ds, o => ∃ a vs, o = some (.ref a) ∧ H a = some (.lst vs) ∧ Ω a = some (i + 2) ∧ Reps K H Ω ds vs
  | .nw xss, o => ∃ (a : Addr) (bs : List Addr), o = some (.ref a) ∧ H a = some (.lst (bs.map V.ref)) ∧ Ω a = some (i + 2) ∧ (a :: bs).Nodup ∧ bs.length = xss.length ∧ Nst K H Ω (i + 2) xss bs
  | .dc ks vs, o => ∃ (a : Addr) (kvs : List (Key × V)), o = some (.ref a) ∧ H a = some (.dK kvs) ∧ Ω a = some (i + 2) ∧ kvs.map (·.1) = ks.map Sum.inl ∧ Reps K H Ω vs (kvs.map (·.2))
  | .ob ks vs as bs, o => ∃ p, o = some (.ref p) ∧ ObAt K H Ω (i + 2) p ks vs as bs
structure RepS (K : PySem.W.Frag) (H : Hp) (Ω : Om) (σ : St) (δ : DSt) : Prop where
  len : δ.length = σ.length
  sl : ∀ (i : Nat) s, δ[i]? = some s → RepSl K H Ω i s (σ[i]?).join
  trk : ∀ a k, Ω a = some k → ∃ u, H a = some u ∧ fixO u = false
noncomputable def RepDV (K : PySem.W.Frag) (H : Hp) (Ω : Om) (σ : St) : DV → V → Prop
  | .val d, v => Rep K H Ω d v
  | .slot i, v => σ[i]? = some (some v)
  | .own ds, v => ∃ a vs, v = .ref a ∧ H a = some (.lst vs) ∧ Ω a = some 1 ∧ Reps K H Ω ds vs
  | .fld i j, v => ∃ p a1 a2 a3, σ[i]? = some (some (.ref p)) ∧ BedAt K H p a1 a2 a3 ∧ ((j = 1 ∧ v = .ref a2) ∨ (j = 2 ∧ v = .ref a3))
noncomputable def Trk (H : Hp) (Ω : Om) : Prop := ∀ a k, Ω a = some k → ∃ u, H a = some u ∧ fixO u = false
noncomputable def Wg {α : Type} (E : Str → Hp → Prop) (H : Hp) (Ω : Om) (P : α → DSt → Hp → Om → Prop) (r : Rs α) : Prop := match r with
  | .un => False
  | .er c => ∀ H' Ω', Ext H Ω H' Ω' → Trk H' Ω' → E c H'
  | .ok a δ' => ∀ H' Ω', Ext H Ω H' Ω' → P a δ' H' Ω'
noncomputable def RepDVs (K : PySem.W.Frag) (H : Hp) (Ω : Om) (σ : St) : List DV → List V → Prop
  | [], vs => vs = []
  | a :: as, vs => ∃ v r, vs = v :: r ∧ RepDV K H Ω σ a v ∧ RepDVs K H Ω σ as r
noncomputable def DV.st : DV → Bool
  | .own _ => false
  | _ => true
noncomputable abbrev PV (K : PySem.W.Frag) (σ : St) (Q : VK) : DV → DSt → Hp → Om → Prop := fun a δ' H' Ω' => RepS K H' Ω' σ δ' → ∀ v, RepDV K H' Ω' σ a v → Q v H'
noncomputable abbrev PB (K : PySem.W.Frag) (σ : St) (Q : Bool → Hp → Prop) : Bool → DSt → Hp → Om → Prop := fun b δ' H' Ω' => RepS K H' Ω' σ δ' → Q b H'
noncomputable abbrev PVs (K : PySem.W.Frag) (σ : St) (Q : List V → Hp → Prop) : List DV → DSt → Hp → Om → Prop := fun as δ' H' Ω' => RepS K H' Ω' σ δ' → ∀ vs, RepDVs K H' Ω' σ as vs → (∀ a ∈ as, a.st = true) → Q vs H'
inductive Fl where
  | nx | bk | ct | rt (d : D) | rto (ds : List D)
noncomputable def FlQ (K : PySem.W.Frag) (H : Hp) (Ω : Om) (σ : St) (B : Ends) : Fl → Prop
  | .nx => B.nx σ H
  | .bk => B.bk σ H
  | .ct => B.ct σ H
  | .rt d => ∀ v, Rep K H Ω d v → B.rt v H
  | .rto ds => ∀ v, RepDV K H Ω σ (.own ds) v → B.rt v H
noncomputable abbrev PF (K : PySem.W.Frag) (mp : List Nat) (σ : St) (B : Ends) : Fl → DSt → Hp → Om → Prop := fun fl δ' H' Ω' => ∀ σ', RepS K H' Ω' σ' δ' → (∀ j ∈ mp, σ'[j]? = σ[j]?) → FlQ K H' Ω' σ' B fl
noncomputable def DE (K : PySem.W.Frag) (E : Str → Hp → Prop) (te : TE) (f : DM DV) : Prop := ∀ σ H δ Ω, RepS K H Ω σ δ → ∀ Q, Wg E H Ω (PV K σ Q) (f δ) → te σ H Q
noncomputable def DT (K : PySem.W.Frag) (E : Str → Hp → Prop) (tt : TT) (f : DM Bool) : Prop := ∀ σ H δ Ω, RepS K H Ω σ δ → ∀ Q, Wg E H Ω (PB K σ Q) (f δ) → tt σ H Q
noncomputable def DA (K : PySem.W.Frag) (E : Str → Hp → Prop) (ta : TA) (f : DM (List DV)) : Prop := ∀ σ H δ Ω, RepS K H Ω σ δ → ∀ Q, Wg E H Ω (PVs K σ Q) (f δ) → ta σ H Q
noncomputable def DS (K : PySem.W.Frag) (E : Str → Hp → Prop) (mp : List Nat) (ts : TS) (f : DM Fl) : Prop := ∀ σ H δ Ω, RepS K H Ω σ δ → ∀ B, Wg E H Ω (PF K mp σ B) (f δ) → ts B σ H
section
variable {K : PySem.W.Frag} {E : Str → Hp → Prop} {H H1 H2 H' : Hp} {Ω Ω1 Ω2 Ω' : Om} {σ : St} {δ : DSt}
theorem Wg.ext {α : Type} {P : α → DSt → Hp → Om → Prop} {r : Rs α} (h : Wg E H Ω P r) (e : Ext H Ω H' Ω') : Wg E H' Ω' P r := by
  cases r with
  | un => exact h
  | er c => exact fun H2 Ω2 e2 => h H2 Ω2 (e.trans e2)
  | ok a δ' => exact fun H2 Ω2 e2 => h H2 Ω2 (e.trans e2)
theorem Wg.imp {α : Type} {P P' : α → DSt → Hp → Om → Prop} {r : Rs α} (h : Wg E H Ω P r) (hp : ∀ a δ' H' Ω', Ext H Ω H' Ω' → P a δ' H' Ω' → P' a δ' H' Ω') : Wg E H Ω P' r := by
  cases r with
  | un => exact h
  | er c => exact h
  | ok a δ' => exact fun H2 Ω2 e2 => hp _ _ _ _ e2 (h H2 Ω2 e2)
theorem Wg.bd {α β : Type} {f : DM α} {g : α → DM β} {P : β → DSt → Hp → Om → Prop} (h : Wg E H Ω P (f.bd g δ)) {P1 : α → DSt → Hp → Om → Prop}
    (k : ∀ a δ' H' Ω', Ext H Ω H' Ω' → Wg E H' Ω' P (g a δ') → P1 a δ' H' Ω') : Wg E H Ω P1 (f δ) := by
  unfold DM.bd at h
  cases e : f δ with
  | un => rw [e] at h; exact h
  | er c => rw [e] at h; exact h
  | ok a δ' => rw [e] at h; exact fun H' Ω' ex => k a δ' H' Ω' ex (Wg.ext h ex)
theorem RepDV.ext {a : DV} {v : V} (h : RepDV K H Ω σ a v) (ha : a.st = true) (e : Ext H Ω H' Ω') : RepDV K H' Ω' σ a v := by
  cases a with
  | val d => exact Rep.ext e h
  | slot i => exact h
  | own ds => cases ha
  | fld i j =>
    obtain ⟨p, a1, a2, a3, e1, e2, e3⟩ := h
    exact ⟨p, a1, a2, a3, e1, e2.ext e, e3⟩
theorem RepDVs.ext : ∀ {as : List DV} {vs : List V}, RepDVs K H Ω σ as vs → (∀ a ∈ as, a.st = true) → Ext H Ω H' Ω' → RepDVs K H' Ω' σ as vs
  | [], _, h, _, _ => h
  | _ :: _, _, h, ha, e => by
    obtain ⟨v, r, e1, e2, e3⟩ := h
    exact ⟨v, r, e1, e2.ext (ha _ List.mem_cons_self) e, e3.ext (fun a q => ha a (List.mem_cons_of_mem _ q)) e⟩
theorem Wg.now {d : DV} {v : V} {Q : VK} (h : Wg E H Ω (PV K σ Q) (.ok d δ)) (R : RepS K H Ω σ δ) (r : RepDV K H Ω σ d v) : Q v H := h H Ω .refl R v r
theorem Wg.nowB {b : Bool} {Q : Bool → Hp → Prop} (h : Wg E H Ω (PB K σ Q) (.ok b δ)) (R : RepS K H Ω σ δ) : Q b H := h H Ω .refl R
noncomputable def own1 (Ω : Om) (p : Addr) : Om := fun b => if b = p then some 1 else Ω b
noncomputable def freed (Ω : Om) (p : Addr) : Om := fun b => if b = p then none else Ω b
theorem Ext.alloc {p : Addr} {o : HO} (hp : H p = none) (trk : ∀ a k, Ω a = some k → ∃ u, H a = some u ∧ fixO u = false) : Ext H Ω (upd H p o) Ω where
  keep := fun b o' e _ => by rw [upd_ne (ne_of_none e hp)]; exact e
  new := fun _ e _ => e
  fr := fun _ => Iff.rfl
  live := fun b e => by
    unfold upd at e
    split at e
    · cases e
    · exact e
theorem Ext.alloc1 {p : Addr} {xs : List V} (hp : H p = none) (trk : ∀ a k, Ω a = some k → ∃ u, H a = some u ∧ fixO u = false) : Ext H Ω (upd H p (.lst xs)) (own1 Ω p) where
  keep := fun b o' e _ => by rw [upd_ne (ne_of_none e hp)]; exact e
  new := fun b e h => by
    unfold own1
    rw [if_neg (fun z => h (by rw [z]; exact hp))]
    exact e
  fr := fun b => by
    unfold own1
    split
    · rename_i z
      subst z
      constructor
      · intro q
        obtain ⟨vs, e, _⟩ := trk _ _ q
        rw [hp] at e; cases e
      · intro q; cases q
    · exact Iff.rfl
  live := fun b e => by
    unfold upd at e
    split at e
    · cases e
    · exact e
theorem Ext.free {p : Addr} {k : Nat} (hp : Ω p = some (k + 1)) : Ext H Ω H (freed Ω p) where
  keep := fun b o' e _ => e
  new := fun b e h => by unfold freed; split <;> first | rfl | exact e
  fr := fun b => by
    unfold freed
    split
    · rename_i z
      subst z
      rw [hp]
      constructor <;> intro q <;> cases q
    · exact Iff.rfl
  live := fun b e => e
theorem ShL.less {a : Addr} {xs : List V} (h : ShL H Ω a xs) (hl : ∀ b, Ω b = none → Ω' b = none) : ShL H Ω' a xs := ⟨h.1, hl a h.2⟩
mutual
theorem Rep.less (hl : ∀ b, Ω b = none → Ω' b = none) : ∀ {d : D} {v : V}, Rep K H Ω d v → Rep K H Ω' d v
  | .non, _, h => h
  | .bl _, _, h => h
  | .int _, _, h => h
  | .str _, _, h => h
  | .tup _, _, h => by
    obtain ⟨a, vs, e1, e2, e3⟩ := (show ∃ a vs, _ from h)
    exact (show ∃ a vs, _ from ⟨a, vs, e1, e2, Reps.less hl e3⟩)
  | .lst _, _, h => by
    obtain ⟨a, vs, e1, e2, e3⟩ := (show ∃ a vs, _ from h)
    exact (show ∃ a vs, _ from ⟨a, vs, e1, e2.less hl, Reps.less hl e3⟩)
  | .scr _, _, h => h
  | .exc _, _, h => h
  | .key _ _, _, h => h
  | .obj _ _ _ _, _, h => by
    obtain ⟨p, a1, a2, a3, kvs, xs, ys, e1, e2, e3, e4, e5, e6, e7, e8, e9⟩ := (show ∃ p a1 a2 a3 kvs xs ys, _ from h)
    exact (show ∃ p a1 a2 a3 kvs xs ys, _ from ⟨p, a1, a2, a3, kvs, xs, ys, e1, e2, ⟨e3.1, hl _ e3.2⟩, ⟨e4.1, hl _ e4.2⟩, ⟨e5.1, hl _ e5.2⟩, e6, Reps.less hl e7, Reps.less hl e8, Reps.less hl e9⟩)
theorem Reps.less (hl : ∀ b, Ω b = none → Ω' b = none) : ∀ {ds : List D} {vs : List V}, Reps K H Ω ds vs → Reps K H Ω' ds vs
  | [], _, h => h
  | _ :: _, _, h => by
    obtain ⟨v, r, e1, e2, e3⟩ := (show ∃ v r, _ from h)
    exact (show ∃ v r, _ from ⟨v, r, e1, Rep.less hl e2, Reps.less hl e3⟩)
end
theorem freed_less {p : Addr} : ∀ b, Ω b = none → freed Ω p b = none := fun b e => by unfold freed; split <;> first | rfl | exact e
theorem keep_fix {p b : Addr} {o u : HO} (hl : ∃ vs, H p = some vs ∧ fixO vs = false) (q : H b = some u) (f : fixO u = true) : upd H p o b = some u := by
  rw [upd_ne]
  · exact q
  · rintro rfl
    obtain ⟨v, e, g⟩ := hl
    rw [e] at q
    cases q
    rw [f] at g
    cases g
theorem RepSl.mv {i : Nat} {s : Sl} {o : Option V} (h : RepSl K H Ω i s o) (h1 : ∀ d v, Rep K H Ω d v → Rep K H' Ω' d v) (h2 : ∀ ds vs, Reps K H Ω ds vs → Reps K H' Ω' ds vs)
    (hk : ∀ b u, Ω b = some (i + 2) → H b = some u → H' b = some u ∧ Ω' b = some (i + 2)) (hf : ∀ b u, H b = some u → fixO u = true → H' b = some u := by first | exact (fun _ _ q _ => q) | exact (fun _ _ q f => keep_fix (by assumption) q f) | exact (fun b u q f => Ext.keep (by assumption) b u q (.inl f))) : RepSl K H' Ω' i s o := by
  cases s with
  | no => trivial
  | sh d => obtain ⟨v, e1, e2⟩ := h; exact ⟨v, e1, h1 _ _ e2⟩
  | ow ds =>
    obtain ⟨a, vs, e1, e2, e3, e4⟩ := h
    obtain ⟨q1, q2⟩ := hk a _ e3 e2
    exact ⟨a, vs, e1, q1, q2, h2 _ _ e4⟩
  | nw xss =>
    obtain ⟨a, bs, e1, e2, e3, e4, e5, e6⟩ := h
    obtain ⟨q1, q2⟩ := hk a _ e3 e2
    refine ⟨a, bs, e1, q1, q2, e4, e5, fun j b xs z1 z2 => ?_⟩
    obtain ⟨ws, w1, w2, w3⟩ := e6 j b xs z1 z2
    obtain ⟨y1, y2⟩ := hk b _ w2 w1
    exact ⟨ws, y1, y2, h2 _ _ w3⟩
  | dc ks vs =>
    obtain ⟨a, kvs, e1, e2, e3, e4, e5⟩ := h
    obtain ⟨q1, q2⟩ := hk a _ e3 e2
    exact ⟨a, kvs, e1, q1, q2, e4, h2 _ _ e5⟩
  | ob ks vs as bs =>
    obtain ⟨p, e0, a1, a2, a3, kvs, xs, ys, ⟨C, dx, c1, c2⟩, e3, e4, e5, ne, e6, e7, e8, e9⟩ := h
    exact ⟨p, e0, a1, a2, a3, kvs, xs, ys, ⟨C, dx, c1, hf _ _ c2 rfl⟩, hk _ _ e3.2 e3.1, hk _ _ e4.2 e4.1, hk _ _ e5.2 e5.1, ne, e6, h2 _ _ e7, h2 _ _ e8, h2 _ _ e9⟩
theorem RepSl.ext {i : Nat} {s : Sl} {o : Option V} (h : RepSl K H Ω i s o) (e : Ext H Ω H' Ω') (hk : ∀ b u, Ω b = some (i + 2) → H b = some u → H' b = some u ∧ Ω' b = some (i + 2)) : RepSl K H' Ω' i s o := h.mv (fun _ _ => Rep.ext e) (fun _ _ => Reps.ext e) hk fun b u q f => e.keep b u q (.inl f)
theorem RepS.ext (R : RepS K H Ω σ δ) (e : Ext H Ω H' Ω') (hk : ∀ b k u, Ω b = some (k + 2) → H b = some u → H' b = some u ∧ Ω' b = some (k + 2)) (ht : ∀ a k, Ω' a = some k → ∃ u, H' a = some u ∧ fixO u = false) : RepS K H' Ω' σ δ :=
  ⟨R.len, fun i s h => (R.sl i s h).ext e fun b vs q1 q2 => hk b i vs q1 q2, ht⟩
theorem RepS.alloc {p : Addr} {o : HO} (R : RepS K H Ω σ δ) (hp : H p = none) : RepS K (upd H p o) Ω σ δ :=
  R.ext (.alloc hp R.trk) (fun b k vs q1 q2 => ⟨by rw [upd_ne (ne_of_none q2 hp)]; exact q2, q1⟩) fun a k q => by
    obtain ⟨vs, e, f⟩ := R.trk a k q
    exact ⟨vs, by rw [upd_ne (ne_of_none e hp)]; exact e, f⟩
theorem RepS.alloc1 {p : Addr} {xs : List V} (R : RepS K H Ω σ δ) (hp : H p = none) : RepS K (upd H p (.lst xs)) (own1 Ω p) σ δ :=
  R.ext (.alloc1 hp R.trk) (fun b k vs q1 q2 => by
    have : b ≠ p := ne_of_none q2 hp
    exact ⟨by rw [upd_ne this]; exact q2, by unfold own1; rw [if_neg this]; exact q1⟩) fun a k q => by
    by_cases h : a = p
    · subst h; exact ⟨_, upd_same, rfl⟩
    · unfold own1 at q
      rw [if_neg h] at q
      obtain ⟨vs, e, f⟩ := R.trk a k q
      exact ⟨vs, by rw [upd_ne h]; exact e, f⟩
theorem RepS.free1 {p : Addr} (R : RepS K H Ω σ δ) (hp : Ω p = some 1) : RepS K H (freed Ω p) σ δ :=
  R.ext (.free (k := 0) hp) (fun b k vs q1 q2 => ⟨q2, by
    unfold freed
    rw [if_neg]
    · exact q1
    · rintro rfl; rw [hp] at q1; cases q1⟩) fun a k q => by
    unfold freed at q
    split at q
    · cases q
    · exact R.trk a k q
theorem Wg.alloc1 {p : Addr} {ds : List D} {xs : List V} {Q : VK} (h : Wg E H Ω (PV K σ Q) (.ok (.own ds) δ)) (R : RepS K H Ω σ δ) (hp : H p = none) (r : Reps K H Ω ds xs) : Q (.ref p) (upd H p (.lst xs)) :=
  h _ (own1 Ω p) (.alloc1 hp R.trk) (R.alloc1 hp) _ ⟨p, xs, rfl, upd_same, by unfold own1; rw [if_pos rfl], r.ext (.alloc1 hp R.trk)⟩
theorem Wg.allocT {p : Addr} {ds : List D} {xs : List V} {Q : VK} (h : Wg E H Ω (PV K σ Q) (.ok (.val (.tup ds)) δ)) (R : RepS K H Ω σ δ) (hp : H p = none) (r : Reps K H Ω ds xs) : Q (.ref p) (upd H p (.tup xs)) :=
  h _ Ω (.alloc hp R.trk) (R.alloc hp) _ (show ∃ a vs, _ from ⟨p, xs, rfl, SqT.of upd_same, r.ext (.alloc hp R.trk)⟩)
noncomputable def norm : DV → DV
  | .own ds => .val (.lst ds)
  | a => a
noncomputable def fN (f : DM DV) : DM DV := f.bd fun a => .ret (norm a)
theorem norm_st (a : DV) : (norm a).st = true := by cases a <;> rfl
theorem RepDV.norm {a : DV} {v : V} (R : RepS K H Ω σ δ) (h : RepDV K H Ω σ a v) : ∃ Ω', RepS K H Ω' σ δ ∧ RepDV K H Ω' σ (norm a) v ∧ Ext H Ω H Ω' := by
  cases a with
  | val d => exact ⟨Ω, R, h, .refl⟩
  | slot i => exact ⟨Ω, R, h, .refl⟩
  | fld i j => exact ⟨Ω, R, h, .refl⟩
  | own ds =>
    obtain ⟨a, vs, e1, e2, e3, e4⟩ := h
    refine ⟨freed Ω a, R.free1 e3, (show ∃ a vs, _ from ⟨a, vs, e1, .intro (.inl e2) (by unfold freed; rw [if_pos rfl]), e4.less freed_less⟩), .free (k := 0) e3⟩
theorem DE.use {β : Type} {ta : TE} {f : DM DV} {g : DV → DM β} {P : β → DSt → Hp → Om → Prop} {T : V → Hp → Prop} (ha : DE K E ta f) (R : RepS K H Ω σ δ) (h : Wg E H Ω P ((fN f).bd g δ))
    (k : ∀ a x δ' H' Ω', Ext H Ω H' Ω' → a.st = true → RepS K H' Ω' σ δ' → RepDV K H' Ω' σ a x → Wg E H' Ω' P (g a δ') → T x H') : ta σ H T := by
  refine ha σ H δ Ω R T (Wg.bd (f := f) (g := fun a => g (norm a)) (P := P) ?_ fun a δ' H' Ω' ex h' R' v rv => ?_)
  · unfold fN DM.bd DM.ret at h
    unfold DM.bd
    cases e : f δ with
    | un => rw [e] at h; exact h
    | er c => rw [e] at h; exact h
    | ok a δ' => rw [e] at h; exact h
  · obtain ⟨Ω2, R2, r2, x2⟩ := rv.norm R'
    exact k (norm a) v δ' H' Ω2 (ex.trans x2) (norm_st a) R2 r2 (Wg.ext h' x2)
theorem DE.norm {ta : TE} {f : DM DV} (ha : DE K E ta f) : DE K E ta (fN f) := by
  intro σ H δ Ω R Q h
  refine ha.use (g := .ret) R (P := PV K σ Q) ?_ fun a x δ' H' Ω' _ _ R' r' h' => h'.now R' r'
  unfold fN DM.bd DM.ret at h ⊢
  cases e : f δ with
  | un => rw [e] at h; exact h
  | er c => rw [e] at h; exact h
  | ok a δ' => rw [e] at h; exact h
theorem DT.use {β : Type} {ta : TT} {f : DM Bool} {g : Bool → DM β} {P : β → DSt → Hp → Om → Prop} {T : Bool → Hp → Prop} (ha : DT K E ta f) (R : RepS K H Ω σ δ) (h : Wg E H Ω P (f.bd g δ))
    (k : ∀ b δ' H' Ω', Ext H Ω H' Ω' → RepS K H' Ω' σ δ' → Wg E H' Ω' P (g b δ') → T b H') : ta σ H T :=
  ha σ H δ Ω R T (Wg.bd h fun b δ' H' Ω' ex h' R' => k b δ' H' Ω' ex R' h')
theorem DA.use {β : Type} {ta : TA} {f : DM (List DV)} {g : List DV → DM β} {P : β → DSt → Hp → Om → Prop} {T : List V → Hp → Prop} (ha : DA K E ta f) (R : RepS K H Ω σ δ) (h : Wg E H Ω P (f.bd g δ))
    (k : ∀ as vs δ' H' Ω', Ext H Ω H' Ω' → (∀ a ∈ as, a.st = true) → RepS K H' Ω' σ δ' → RepDVs K H' Ω' σ as vs → Wg E H' Ω' P (g as δ') → T vs H') : ta σ H T :=
  ha σ H δ Ω R T (Wg.bd h fun as δ' H' Ω' ex h' R' vs rv hs => k as vs δ' H' Ω' ex hs R' rv h')
noncomputable def RepB (K : PySem.W.Frag) (H : Hp) (Ω : Om) : D → V → Prop
  | .lst ds, v => ∃ a vs, v = .ref a ∧ Rd H a (.lst vs) ∧ Reps K H Ω ds vs
  | .obj ks vs as bs, v => ∃ p a1 a2 a3 kvs xs ys, v = .ref p ∧ BedAt K H p a1 a2 a3 ∧ H a1 = some (.dT kvs) ∧ H a2 = some (.lst xs) ∧ H a3 = some (.lst ys) ∧ kvs.map (·.1) = ks.map keyL ∧ Reps K H Ω vs (kvs.map (·.2)) ∧ Reps K H Ω as xs ∧ Reps K H Ω bs ys
  | d, v => Rep K H Ω d v
theorem Rep.b {d : D} {v : V} (h : Rep K H Ω d v) : RepB K H Ω d v := by
  cases d with
  | lst ds => obtain ⟨a, vs, e1, e2, e3⟩ := (show ∃ a vs, _ from h); exact ⟨a, vs, e1, e2.1, e3⟩
  | obj ks vs as bs =>
    obtain ⟨p, a1, a2, a3, kvs, xs, ys, e1, e2, e3, e4, e5, e6, e7, e8, e9⟩ := (show ∃ p a1 a2 a3 kvs xs ys, _ from h)
    exact ⟨p, a1, a2, a3, kvs, xs, ys, e1, e2, e3.1, e4.1, e5.1, e6, e7, e8, e9⟩
  | _ => exact h
noncomputable def partO (s : Sl) (j : Nat) : Option (List D) := match s, j with
  | .ob _ _ as _, 1 => some as
  | .ob _ _ _ bs, 2 => some bs
  | .sh (.obj _ _ as _), 1 => some as
  | .sh (.obj _ _ _ bs), 2 => some bs
  | _, _ => none
noncomputable def res (δ : DSt) : DV → Option D
  | .val d => some d
  | .own ds => some (.lst ds)
  | .slot i => match δ[i]? with | some (.sh d) => some d | some (.ow ds) => some (.lst ds) | some (.ob ks vs as bs) => some (.obj ks vs as bs) | _ => none
  | .fld i j => match δ[i]? with | some s => (partO s j).map .lst | none => none
theorem BedAt.inj {p a1 a2 a3 b1 b2 b3 : Addr} (h : BedAt K H p a1 a2 a3) (q : BedAt K H p b1 b2 b3) : a1 = b1 ∧ a2 = b2 ∧ a3 = b3 := by
  obtain ⟨C, dx, _, h2⟩ := h
  obtain ⟨C', dx', _, q2⟩ := q
  rw [h2] at q2
  cases q2
  exact ⟨rfl, rfl, rfl⟩
theorem RepDV.res {a : DV} {x : V} {d : D} (R : RepS K H Ω σ δ) (h : RepDV K H Ω σ a x) (e : res δ a = some d) : RepB K H Ω d x := by
  cases a with
  | val d' => cases e; exact Rep.b h
  | own ds => cases e; obtain ⟨a, vs, e1, e2, e3, e4⟩ := h; exact ⟨a, vs, e1, .inl e2, e4⟩
  | slot i =>
    have h : σ[i]? = some (some x) := h
    unfold DL.res at e
    simp only at e
    split at e
    · rename_i d' hd
      cases e
      obtain ⟨v, e1, e2⟩ := R.sl i _ hd
      rw [h] at e1
      cases e1
      exact e2.b
    · rename_i ds hd
      cases e
      obtain ⟨a, vs, e1, e2, e3, e4⟩ := R.sl i _ hd
      rw [h] at e1
      cases e1
      exact ⟨a, vs, rfl, .inl e2, e4⟩
    · rename_i ks vs as bs hd
      cases e
      obtain ⟨p, e0, a1, a2, a3, kvs, xs, ys, e2, e3, e4, e5, ne, e6, e7, e8, e9⟩ := R.sl i _ hd
      rw [h] at e0
      cases e0
      exact ⟨p, a1, a2, a3, kvs, xs, ys, rfl, e2, e3.1, e4.1, e5.1, e6, e7, e8, e9⟩
    · cases e
  | fld i j =>
    obtain ⟨p, b1, b2, b3, h1, h2, h3⟩ := h
    unfold DL.res at e
    simp only at e
    split at e
    · rename_i s hd
      have sl := R.sl i _ hd
      rw [h1] at sl
      cases s with
      | ob ks vs as bs =>
        obtain ⟨p', e0, a1, a2, a3, kvs, xs, ys, e2, e3, e4, e5, ne, e6, e7, e8, e9⟩ := sl
        cases e0
        obtain ⟨rfl, rfl, rfl⟩ := h2.inj e2
        rcases h3 with ⟨rfl, rfl⟩ | ⟨rfl, rfl⟩
        · cases e; exact ⟨b2, xs, rfl, .inl e4.1, e8⟩
        · cases e; exact ⟨b3, ys, rfl, .inl e5.1, e9⟩
      | sh d =>
        cases d with
        | obj ks vs as bs =>
          obtain ⟨v, e0, hv⟩ := sl
          cases e0
          obtain ⟨p', a1, a2, a3, kvs, xs, ys, e1, e2, e3, e4, e5, e6, e7, e8, e9⟩ := (show ∃ p a1 a2 a3 kvs xs ys, _ from hv)
          cases e1
          obtain ⟨rfl, rfl, rfl⟩ := h2.inj e2
          rcases h3 with ⟨rfl, rfl⟩ | ⟨rfl, rfl⟩
          · cases e; exact ⟨b2, xs, rfl, .inl e4.1, e8⟩
          · cases e; exact ⟨b3, ys, rfl, .inl e5.1, e9⟩
        | _ => simp [partO] at e
      | _ => simp [partO] at e
    · cases e
end
end DL
namespace DL
open PySem PySem.Spec PyProof.Rows L2
noncomputable def PED (X : Cx) (E : Str → Hp → Prop) (e : Expr) (f : DM DV) : Prop := ∃ te, PE X e te ∧ DE X.K E te f
noncomputable def PTD (X : Cx) (E : Str → Hp → Prop) (e : Expr) (f : DM Bool) : Prop := ∃ tt, PT X e tt ∧ DT X.K E tt f
noncomputable def PWD (X : Cx) (E : Str → Hp → Prop) (e : Expr) (f : DM Bool) : Prop := ∃ tt, PW X e tt ∧ DT X.K E tt f
noncomputable def PAD (X : Cx) (E : Str → Hp → Prop) (es : List Expr) (f : DM (List DV)) : Prop := ∃ ta, PA X es ta ∧ DA X.K E ta f
noncomputable def PSD (X : Cx) (E : Str → Hp → Prop) (mp : List Nat) (st : Stmt) (f : DM Fl) : Prop := ∃ ts, PS X st ts ∧ DS X.K E mp ts f
noncomputable def PSsD (X : Cx) (E : Str → Hp → Prop) (mp : List Nat) (st : List Stmt) (f : DM Fl) : Prop := ∃ ts, PSs X st ts ∧ DS X.K E mp ts f
section
variable {K : PySem.W.Frag} {E : Str → Hp → Prop} {H H1 H2 H' : Hp} {Ω Ω1 Ω2 Ω' : Om} {σ : St} {δ : DSt}
theorem join_some {α : Type} {o : Option (Option α)} {v : α} (h : o.join = some v) : o = some (some v) := by
  cases o with
  | none => cases h
  | some a => cases a with
    | none => cases h
    | some b => exact congrArg some h
noncomputable def fVar (i : Nat) : DM DV := fun δ => match δ[i]? with
  | some (.sh d) => .ok (.val d) δ
  | some (.ow _) => .ok (.slot i) δ
  | _ => .un
theorem de_var {i : Nat} : DE K E (tVar i) (fVar i) := by
  intro σ H δ Ω R Q h
  unfold fVar at h
  split at h
  · rename_i d hd
    obtain ⟨v, e1, e2⟩ := R.sl i _ hd
    exact ⟨v, join_some e1, h.now R e2⟩
  · rename_i ds hd
    obtain ⟨a, vs, e1, e2, e3, e4⟩ := R.sl i _ hd
    exact ⟨.ref a, join_some e1, h.now R (join_some e1)⟩
  · exact h.elim
noncomputable def fC (d : D) : DM DV := .ret (.val d)
theorem de_c {d : D} {v : V} (hd : ∀ H Ω, Rep K H Ω d v) : DE K E (tC v) (fC d) := fun σ H δ Ω R Q h => Wg.now h R (hd H Ω)
noncomputable def fBin (f1 f2 : DM DV) (g : D → D → Option DV) : DM DV := (fN f1).bd fun a1 => (fN f2).bd fun a2 => fun δ => match res δ a1, res δ a2 with
  | some d1, some d2 => (match g d1 d2 with | some r => .ok r δ | none => .un)
  | _, _ => .un
noncomputable def DR (K : PySem.W.Frag) (r : R2) (g : D → D → Option DV) : Prop :=
  ∀ {E : Str → Hp → Prop} {σ : St} {H : Hp} {δ : DSt} {Ω : Om} {x y : V} {d1 d2 : D} {z : DV} {Q : VK}, RepS K H Ω σ δ → RepB K H Ω d1 x → RepB K H Ω d2 y → g d1 d2 = some z → Wg E H Ω (PV K σ Q) (.ok z δ) → r x y H Q
theorem de_bin {r : R2} {g : D → D → Option DV} {ta tb : TE} {f1 f2 : DM DV} (hr : DR K r g) (ha : DE K E ta f1) (hb : DE K E tb f2) : DE K E (tOp r ta tb) (fBin f1 f2 g) := by
  intro σ H δ Ω R Q h
  refine ha.use R h fun a1 x δ1 H1 Ω1 _ s1 R1 r1 h1 => ?_
  refine hb.use R1 h1 fun a2 y δ2 H2 Ω2 e2 s2 R2 r2 h2 => ?_
  have r1 := r1.ext s1 e2
  cases q1 : res δ2 a1 with
  | none => rw [q1] at h2; exact h2.elim
  | some d1 =>
    cases q2 : res δ2 a2 with
    | none => rw [q1, q2] at h2; exact h2.elim
    | some d2 =>
      rw [q1, q2] at h2
      simp only at h2
      cases q3 : g d1 d2 with
      | none => rw [q3] at h2; exact h2.elim
      | some z =>
        rw [q3] at h2
        exact hr R2 (r1.res R2 q1) (r2.res R2 q2) q3 h2
noncomputable def fUn (f1 : DM DV) (g : D → Option DV) : DM DV := (fN f1).bd fun a1 => fun δ => match res δ a1 with
  | some d1 => (match g d1 with | some r => .ok r δ | none => .un)
  | _ => .un
noncomputable def fTest (f : DM DV) : DM Bool := (fN f).bd fun a δ => match res δ a with
  | some (.bl b) => .ok b δ
  | _ => .un
theorem dt_test {t : TE} {f : DM DV} (ha : DE K E t f) : DT K E (tTest t) (fTest f) := by
  intro σ H δ Ω R Q h
  refine ha.use R h fun a x δ1 H1 Ω1 _ s1 R1 r1 h1 => ?_
  cases q1 : res δ1 a with
  | none => rw [q1] at h1; exact h1.elim
  | some d =>
    rw [q1] at h1
    cases d with
    | bl b => exact ⟨b, (show x = .bl b from r1.res R1 q1), Wg.nowB h1 R1⟩
    | _ => exact h1.elim
theorem dt_tB {t : TE} {f : DM DV} (ha : DE K E t f) : DT K E (tB t) (fTest f) := dt_test ha
noncomputable def fAndT (f g : DM Bool) : DM Bool := f.bd fun b => if b then g else .ret false
noncomputable def fOrT (f g : DM Bool) : DM Bool := f.bd fun b => if b then .ret true else g
noncomputable def fNotT (f : DM Bool) : DM Bool := f.bd fun b => .ret (!b)
theorem dt_and {t u : TT} {f g : DM Bool} (ha : DT K E t f) (hb : DT K E u g) : DT K E (tAnd t u) (fAndT f g) := by
  intro σ H δ Ω R Q h
  refine ha.use R h fun b δ1 H1 Ω1 _ R1 h1 => ?_
  cases b with
  | true => exact iteT (hb σ H1 δ1 Ω1 R1 Q h1)
  | false => exact iteF (Wg.nowB h1 R1)
theorem dt_or {t u : TT} {f g : DM Bool} (ha : DT K E t f) (hb : DT K E u g) : DT K E (tOr t u) (fOrT f g) := by
  intro σ H δ Ω R Q h
  refine ha.use R h fun b δ1 H1 Ω1 _ R1 h1 => ?_
  cases b with
  | true => exact iteT (Wg.nowB h1 R1)
  | false => exact iteF (hb σ H1 δ1 Ω1 R1 Q h1)
theorem dt_not {t : TT} {f : DM Bool} (ha : DT K E t f) : DT K E (tNot t) (fNotT f) := by
  intro σ H δ Ω R Q h
  exact ha.use R h fun b δ1 H1 Ω1 _ R1 h1 => Wg.nowB h1 R1
noncomputable def fBool (f : DM DV) (g : Bool → DM DV) : DM DV := (fN f).bd fun a δ => match res δ a with
  | some (.bl b) => g b δ
  | _ => .un
noncomputable def fAndV (f g : DM DV) : DM DV := fBool f fun b => if b then g else fC (.bl false)
noncomputable def fOrV (f g : DM DV) : DM DV := fBool f fun b => if b then fC (.bl true) else g
noncomputable def fNotV (f : DM DV) : DM DV := fBool f fun b => fC (.bl (!b))
theorem de_bool {ta : TE} {f : DM DV} {g : Bool → DM DV} {T : Bool → TE} (ha : DE K E ta f) (hg : ∀ b, DE K E (T b) (g b)) : DE K E (fun σ H Q => ta σ H fun x H1 => ∃ c, x = .bl c ∧ T c σ H1 Q) (fBool f g) := by
  intro σ H δ Ω R Q h
  refine ha.use R h fun a x δ1 H1 Ω1 _ s1 R1 r1 h1 => ?_
  cases q1 : res δ1 a with
  | none => rw [q1] at h1; exact h1.elim
  | some d =>
    rw [q1] at h1
    cases d with
    | bl b => exact ⟨b, (show x = .bl b from r1.res R1 q1), hg b σ H1 δ1 Ω1 R1 Q h1⟩
    | _ => exact h1.elim
theorem de_and {ta tb : TE} {f g : DM DV} (ha : DE K E ta f) (hb : DE K E tb g) : DE K E (tAndV ta tb) (fAndV f g) :=
  de_bool (T := fun c σ H1 Q => if c = true then tb σ H1 Q else Q (.bl false) H1) ha fun b => by
    cases b with
    | true => exact fun σ H δ Ω R Q h => iteT (hb σ H δ Ω R Q h)
    | false => exact fun σ H δ Ω R Q h => iteF (Wg.now h R rfl)
theorem de_not {ta : TE} {f : DM DV} (ha : DE K E ta f) : DE K E (tNotV ta) (fNotV f) :=
  de_bool (T := fun c _ H1 Q => Q (.bl (!c)) H1) ha fun _ σ H δ Ω R Q h => Wg.now h R rfl
noncomputable def fIfE (c : DM Bool) (f g : DM DV) : DM DV := c.bd fun b => if b then f else g
noncomputable def fNil : DM (List DV) := .ret []
noncomputable def fCons (f : DM DV) (r : DM (List DV)) : DM (List DV) := (fN f).bd fun a => r.bd fun as => .ret (a :: as)
theorem da_nil : DA K E tNil fNil := fun σ H δ Ω R Q h => h H Ω .refl R [] rfl (fun _ z => nomatch z)
theorem da_cons {ta : TE} {tr : TA} {f : DM DV} {r : DM (List DV)} (ha : DE K E ta f) (hr : DA K E tr r) : DA K E (tCons ta tr) (fCons f r) := by
  intro σ H δ Ω R Q h
  refine ha.use R h fun a x δ1 H1 Ω1 _ s1 R1 r1 h1 => ?_
  refine hr.use R1 h1 fun as vs δ2 H2 Ω2 e2 s2 R2 r2 h2 => ?_
  exact h2 H2 Ω2 .refl R2 (x :: vs) ⟨x, vs, rfl, r1.ext s1 e2, r2⟩ fun b hb => by
    rcases List.mem_cons.mp hb with z | z
    · rw [z]; exact s1
    · exact s2 b z
noncomputable def valsOf : List DV → Option (List D)
  | [] => some []
  | .val d :: r => match valsOf r with | some ds => some (d :: ds) | none => none
  | _ :: _ => none
theorem RepDVs.vals : ∀ {as : List DV} {vs : List V} {ds : List D}, RepDVs K H Ω σ as vs → valsOf as = some ds → Reps K H Ω ds vs
  | [], _, _, h, e => by cases e; exact h
  | a :: r, _, ds, h, e => by
    obtain ⟨v, q, e1, e2, e3⟩ := h
    cases a with
    | val d =>
      have e : (match valsOf r with | some ds => some (d :: ds) | none => none) = some ds := e
      cases q' : valsOf r with
      | none => rw [q'] at e; cases e
      | some es => rw [q'] at e; cases e; subst e1; exact .cons e2 (RepDVs.vals e3 q')
    | _ => cases e
noncomputable def resAll (δ : DSt) : List DV → Option (List D)
  | [] => some []
  | a :: r => match res δ a, resAll δ r with | some d, some ds => some (d :: ds) | _, _ => none
noncomputable def RepBs (K : PySem.W.Frag) (H : Hp) (Ω : Om) : List D → List V → Prop
  | [], vs => vs = []
  | d :: ds, vs => ∃ v r, vs = v :: r ∧ RepB K H Ω d v ∧ RepBs K H Ω ds r
theorem RepDVs.all (R : RepS K H Ω σ δ) : ∀ {as : List DV} {vs : List V} {ds : List D}, RepDVs K H Ω σ as vs → resAll δ as = some ds → RepBs K H Ω ds vs
  | [], _, _, h, e => by cases e; exact h
  | a :: r, _, ds, h, e => by
    obtain ⟨v, q, e1, e2, e3⟩ := h
    unfold resAll at e
    split at e
    · rename_i d es q1 q2
      cases e
      exact ⟨v, q, e1, e2.res R q1, RepDVs.all R e3 q2⟩
    · cases e
noncomputable def fCB (fa : DM (List DV)) (g : List D → Option DV) : DM DV := fa.bd fun as => fun δ => match resAll δ as with
  | some ds => (match g ds with | some r => .ok r δ | none => .un)
  | none => .un
noncomputable def DC (K : PySem.W.Frag) (r : List V → Hp → VK → Prop) (g : List D → Option DV) : Prop :=
  ∀ {E : Str → Hp → Prop} {σ : St} {H : Hp} {δ : DSt} {Ω : Om} {vs : List V} {ds : List D} {z : DV} {Q : VK}, RepS K H Ω σ δ → RepBs K H Ω ds vs → g ds = some z → Wg E H Ω (PV K σ Q) (.ok z δ) → r vs H Q
theorem de_cb {r : List V → Hp → VK → Prop} {g : List D → Option DV} {t : TA} {fa : DM (List DV)} (hr : DC K r g) (ha : DA K E t fa) : DE K E (tCB r t) (fCB fa g) := by
  intro σ H δ Ω R Q h
  refine ha.use R h fun as vs δ1 H1 Ω1 _ s1 R1 r1 h1 => ?_
  cases q1 : resAll δ1 as with
  | none => rw [q1] at h1; exact h1.elim
  | some ds =>
    rw [q1] at h1
    simp only at h1
    cases q3 : g ds with
    | none => rw [q3] at h1; exact h1.elim
    | some z =>
      rw [q3] at h1
      exact hr R1 (r1.all R1 q1) q3 h1
noncomputable def fTup (fa : DM (List DV)) : DM DV := fa.bd fun as δ => match valsOf as with
  | some ds => if ds.length ≤ sizeLine then .ok (.val (.tup ds)) δ else .un
  | none => .un
noncomputable def fLst (fa : DM (List DV)) : DM DV := fa.bd fun as δ => match valsOf as with
  | some ds => if ds.length ≤ sizeLine then .ok (.own ds) δ else .un
  | none => .un
theorem de_tup {t : TA} {fa : DM (List DV)} (ha : DA K E t fa) : DE K E (tTup t) (fTup fa) := by
  intro σ H δ Ω R Q h
  refine ha.use R h fun as vs δ1 H1 Ω1 _ s1 R1 r1 h1 => ?_
  cases q1 : valsOf as with
  | none => rw [q1] at h1; exact h1.elim
  | some ds =>
    rw [q1] at h1
    simp only at h1
    split at h1
    · rename_i hz
      have r := r1.vals q1
      exact ⟨by rw [← r.length]; exact hz, fun p hp => Wg.allocT h1 R1 hp r⟩
    · exact h1.elim
theorem de_lst {t : TA} {fa : DM (List DV)} (ha : DA K E t fa) : DE K E (tLst t) (fLst fa) := by
  intro σ H δ Ω R Q h
  refine ha.use R h fun as vs δ1 H1 Ω1 _ s1 R1 r1 h1 => ?_
  cases q1 : valsOf as with
  | none => rw [q1] at h1; exact h1.elim
  | some ds =>
    rw [q1] at h1
    simp only at h1
    split at h1
    · rename_i hz
      have r := r1.vals q1
      exact ⟨by rw [← r.length]; exact hz, fun p hp => Wg.alloc1 h1 R1 hp r⟩
    · exact h1.elim
noncomputable def fNext : DM Fl := .ret .nx
noncomputable def fSeq (f g : DM Fl) : DM Fl := fun δ => match f δ with
  | .ok .nx δ' => g δ'
  | r => r
variable {mp : List Nat}
theorem ds_next : DS K E mp tNext fNext := fun σ H δ Ω R B h => h H Ω .refl σ R fun _ _ => rfl
theorem PF.same {B : Ends} {σ' : St} {fl : Fl} {δ' : DSt} (h : PF K mp σ B fl δ' H Ω) (hm : ∀ j ∈ mp, σ'[j]? = σ[j]?) : PF K mp σ' B fl δ' H Ω := fun σ2 R2 m2 => h σ2 R2 fun j hj => (m2 j hj).trans (hm j hj)
theorem Wg.same {B : Ends} {σ' : St} {r : Rs Fl} (h : Wg E H Ω (PF K mp σ B) r) (hm : ∀ j ∈ mp, σ'[j]? = σ[j]?) : Wg E H Ω (PF K mp σ' B) r := h.imp fun _ _ _ _ _ q => PF.same q hm
theorem ds_seq {t u : TS} {f g : DM Fl} (hf : DS K E mp t f) (hg : DS K E mp u g) : DS K E mp (tSeq t u) (fSeq f g) := by
  intro σ H δ Ω R B h
  refine hf σ H δ Ω R _ ?_
  unfold fSeq at h
  cases e : f δ with
  | un => rw [e] at h; exact h
  | er c => rw [e] at h; exact h
  | ok a δ' =>
    rw [e] at h
    cases a with
    | nx => exact fun H' Ω' ex σ' R' m' => hg σ' H' δ' Ω' R' B ((Wg.ext h ex).same m')
    | bk => exact h
    | ct => exact h
    | rt d => exact h
    | rto ds => exact h
noncomputable def fIf (c : DM Bool) (f g : DM Fl) : DM Fl := c.bd fun b => if b then f else g
theorem ds_if {c : TT} {t u : TS} {fc : DM Bool} {f g : DM Fl} (hc : DT K E c fc) (hf : DS K E mp t f) (hg : DS K E mp u g) : DS K E mp (tIfS c t u) (fIf fc f g) := by
  intro σ H δ Ω R B h
  refine hc.use R h fun b δ1 H1 Ω1 _ R1 h1 => ?_
  cases b with
  | true => exact iteT (hf σ H1 δ1 Ω1 R1 B h1)
  | false => exact iteF (hg σ H1 δ1 Ω1 R1 B h1)
noncomputable def fDrop (f : DM DV) : DM Fl := f.bd fun _ => .ret .nx
theorem ds_drop {te : TE} {f : DM DV} (ha : DE K E te f) : DS K E mp (tDrop te) (fDrop f) := by
  intro σ H δ Ω R B h
  exact ha σ H δ Ω R _ (Wg.bd h fun a δ' H' Ω' ex h' R' v rv => h' H' Ω' .refl σ R' fun _ _ => rfl)
theorem RepS.set {i : Nat} {s : Sl} {v : V} (R : RepS K H Ω σ δ) (r : RepSl K H Ω i s (some v)) : RepS K H Ω (σ.set i (some v)) (δ.set i s) := by
  refine ⟨by rw [List.length_set, List.length_set]; exact R.len, fun j t h => ?_, R.trk⟩
  by_cases hj : i = j
  · subst hj
    have hl : i < δ.length := by
      have := (List.getElem?_eq_some_iff.mp h).1
      rwa [List.length_set] at this
    rw [List.getElem?_set_self hl] at h
    cases h
    rw [List.getElem?_set_self (by rw [← R.len]; exact hl)]
    exact r
  · rw [List.getElem?_set_ne hj] at h
    rw [List.getElem?_set_ne hj]
    exact R.sl j t h
theorem RepS.forget {i : Nat} (R : RepS K H Ω σ δ) : RepS K H Ω σ (δ.set i .no) := by
  refine ⟨by rw [List.length_set]; exact R.len, fun j t h => ?_, R.trk⟩
  by_cases hj : i = j
  · subst hj
    have hl : i < δ.length := by
      have := (List.getElem?_eq_some_iff.mp h).1
      rwa [List.length_set] at this
    rw [List.getElem?_set_self hl] at h
    cases h
    trivial
  · rw [List.getElem?_set_ne hj] at h
    exact R.sl j t h
theorem set_same {i : Nat} {o : Option V} (hi : i ∉ mp) : ∀ j ∈ mp, (σ.set i o)[j]? = σ[j]? := fun j hj => List.getElem?_set_ne fun z => hi (by rw [z]; exact hj)
noncomputable def fSet (i : Nat) (f : DM DV) : DM Fl := (fN f).bd fun a δ => match a with
  | .val d => .ok .nx (δ.set i (.sh d))
  | _ => .un
theorem ds_set {i : Nat} {te : TE} {f : DM DV} (hi : i ∉ mp) (ha : DE K E te f) : DS K E mp (tAsg te (gName i)) (fSet i f) := by
  intro σ H δ Ω R B h
  refine ha.use R h fun a x δ1 H1 Ω1 _ s1 R1 r1 h1 => ?_
  cases a with
  | val d => exact h1 H1 Ω1 .refl _ (R1.set ⟨x, rfl, r1⟩) (set_same hi)
  | slot j => exact h1.elim
  | own ds => exact h1.elim
  | fld _ _ => exact h1.elim
noncomputable def ownTo (Ω : Om) (p : Addr) (k : Nat) : Om := fun b => if b = p then some k else Ω b
theorem Ext.own {p : Addr} {k k' : Nat} (hp : Ω p = some (k' + 1)) : Ext H Ω H (ownTo Ω p (k + 1)) where
  keep := fun b o' e _ => e
  new := fun b e h => by
    unfold ownTo
    rw [if_neg]
    · exact e
    · rintro rfl; rw [hp] at e; cases e
  fr := fun b => by
    unfold ownTo
    split
    · rename_i z
      subst z
      rw [hp]
      constructor <;> intro q <;> cases q
    · exact Iff.rfl
  live := fun b e => e
theorem RepS.ownTo {p : Addr} {k k' : Nat} (R : RepS K H Ω σ δ) (hp : Ω p = some (k' + 1)) (hs : ∀ i s, δ[i]? = some s → s = .no ∨ i + 2 ≠ k' + 1) : RepS K H (DL.ownTo Ω p (k + 1)) σ δ := by
  refine ⟨R.len, fun i s h => ?_, fun a j q => ?_⟩
  · rcases hs i s h with z | z
    · subst z; trivial
    refine (R.sl i s h).mv (fun _ _ => .ext (.own hp)) (fun _ _ => .ext (.own hp)) fun b vs e3 e2 => ⟨e2, ?_⟩
    unfold DL.ownTo
    rw [if_neg]
    · exact e3
    · rintro rfl
      rw [hp] at e3
      exact z (Option.some.inj e3).symm
  · unfold DL.ownTo at q
    split at q
    · rename_i z; subst z; exact R.trk _ _ hp
    · exact R.trk a j q
noncomputable def fSetO (i : Nat) (f : DM DV) : DM Fl := f.bd fun a δ => match a with
  | .own ds => .ok .nx (δ.set i (.ow ds))
  | _ => .un
theorem ds_setO {i : Nat} {te : TE} {f : DM DV} (hi : i ∉ mp) (ha : DE K E te f) : DS K E mp (tAsg te (gName i)) (fSetO i f) := by
  intro σ H δ Ω R B h
  refine ha σ H δ Ω R _ (Wg.bd h fun a δ1 H1 Ω1 ex h1 R1 x r1 => ?_)
  cases a with
  | val d => exact h1.elim
  | slot j => exact h1.elim
  | fld _ _ => exact h1.elim
  | own ds =>
    obtain ⟨a, vs, e1, e2, e3, e4⟩ := r1
    subst e1
    have R2 := R1.ownTo (k := i + 1) (k' := 0) e3 fun j _ _ => .inr (by omega)
    exact h1 H1 (DL.ownTo Ω1 a (i + 1 + 1)) (.own (k' := 0) e3) _ (R2.set ⟨a, vs, rfl, e2, by unfold DL.ownTo; rw [if_pos rfl], e4.ext (.own (k' := 0) e3)⟩) (set_same hi)
noncomputable def frz (i : Nat) (δ : DSt) : DSt := match δ[i]? with
  | some (.ow ds) => δ.set i (.sh (.lst ds))
  | _ => δ
noncomputable def fRet (f : DM DV) : DM Fl := f.bd fun a δ => match a with
  | .val d => .ok (.rt d) δ
  | .own ds => .ok (.rto ds) δ
  | .slot i => (match δ[i]? with | some (.ow ds) => .ok (.rto ds) (δ.set i .no) | _ => .un)
  | .fld _ _ => .un
theorem ds_ret {te : TE} {f : DM DV} (ha : DE K E te f) : DS K E mp (tRet te) (fRet f) := by
  intro σ H δ Ω R B h
  refine ha σ H δ Ω R _ (Wg.bd h fun a δ1 H1 Ω1 ex h1 R1 x r1 => ?_)
  cases a with
  | val d => exact h1 H1 Ω1 .refl σ R1 (fun _ _ => rfl) x r1
  | own ds => exact h1 H1 Ω1 .refl σ R1 (fun _ _ => rfl) x r1
  | fld _ _ => exact h1.elim
  | slot i =>
    simp only at h1
    split at h1
    · rename_i ds hd
      obtain ⟨a, vs, e1, e2, e3, e4⟩ := R1.sl i _ hd
      have r1 : σ[i]? = some (some x) := r1
      rw [r1] at e1
      cases e1
      have hl : i < δ1.length := (List.getElem?_eq_some_iff.mp hd).1
      have R2 := (R1.forget (i := i)).ownTo (k := 0) (k' := i + 1) e3 fun j s q => by
        by_cases z : j = i
        · subst z
          rw [List.getElem?_set_self hl] at q
          exact .inl (Option.some.inj q).symm
        · exact .inr (by omega)
      exact h1 H1 (DL.ownTo Ω1 a (0 + 1)) (.own (k' := i + 1) e3) σ R2 (fun _ _ => rfl) _ ⟨a, vs, rfl, e2, by unfold DL.ownTo; rw [if_pos rfl], e4.ext (.own (k' := i + 1) e3)⟩
    · exact h1.elim
end
end DL
namespace DL
open PySem PySem.Spec PyProof.Rows L2
structure Yl (K : PySem.W.Frag) (J : It) (H : Hp) (Ω : Om) (ds : List D) : Prop where
  go : ∀ i H' Ω', Ext H Ω H' Ω' → i < ds.length → J.go i H'
  yld : ∀ i d H' Ω' x H'', Ext H Ω H' Ω' → ds[i]? = some d → J.yld i H' x H'' → Rep K H'' Ω' d x ∧ (H'' = H' ∨ ∃ p xs, H' p = none ∧ H'' = upd H' p (.tup xs))
  stop : ∀ H' Ω', Ext H Ω H' Ω' → J.stop ds.length H'
noncomputable def DI (K : PySem.W.Frag) (E : Str → Hp → Prop) (wi : TI) (f : DM (List D)) : Prop := ∀ σ H δ Ω, RepS K H Ω σ δ → ∀ R : It → Hp → Prop,
  Wg E H Ω (fun ds δ' H' Ω' => RepS K H' Ω' σ δ' → ∀ J, (∀ Ω2 : Om, (∀ b, Ω' b = none → Ω2 b = none) → Yl K J H' Ω2 ds) → R J H') (f δ) → wi σ H R
noncomputable def DG (K : PySem.W.Frag) (mp : List Nat) (g : TG) (t : D → DSt → Option DSt) : Prop := ∀ σ H δ Ω d x δ', RepS K H Ω σ δ → Rep K H Ω d x → t d δ = some δ' →
  ∀ Q : St → Hp → Prop, (∀ σ', RepS K H Ω σ' δ' → (∀ j ∈ mp, σ'[j]? = σ[j]?) → Q σ' H) → g x σ H Q
section
variable {K : PySem.W.Frag} {E : Str → Hp → Prop} {H H1 H2 H' : Hp} {Ω Ω1 Ω2 Ω' : Om} {σ : St} {δ : DSt} {mp : List Nat}
noncomputable def sName (i : Nat) : D → DSt → Option DSt := fun d δ => some (δ.set i (.sh d))
theorem dg_name {i : Nat} (hi : i ∉ mp) : DG K mp (gName i) (sName i) := by
  intro σ H δ Ω d x δ' R r e Q h
  cases e
  exact h _ (R.set ⟨x, rfl, r⟩) (set_same hi)
noncomputable def loopD (t : D → DSt → Option DSt) (body : DM Fl) : List D → DM Fl
  | [], δ => .ok .nx δ
  | d :: ds, δ => match t d δ with
    | none => .un
    | some δ1 => match body δ1 with
      | .un => .un
      | .er c => .er c
      | .ok .nx δ2 => loopD t body ds δ2
      | .ok .ct δ2 => loopD t body ds δ2
      | .ok .bk δ2 => .ok .nx δ2
      | .ok (.rt d) δ2 => .ok (.rt d) δ2
      | .ok (.rto d) δ2 => .ok (.rto d) δ2
noncomputable def fFor (fi : DM (List D)) (t : D → DSt → Option DSt) (body : DM Fl) : DM Fl := fi.bd fun ds => loopD t body ds
theorem drop_cons {α : Type} {l : List α} {i : Nat} {a : α} (h : l[i]? = some a) : l.drop i = a :: l.drop (i + 1) := by
  obtain ⟨hi, e⟩ := List.getElem?_eq_some_iff.mp h
  rw [List.drop_eq_getElem_cons hi, e]
theorem ds_for {wi : TI} {g : TG} {tb : TS} {fi : DM (List D)} {t : D → DSt → Option DSt} {fb : DM Fl} (hi : DI K E wi fi) (hg : DG K mp g t) (hb : DS K E mp tb fb) : DS K E mp (tFor wi g tb) (fFor fi t fb) := by
  intro σ H δ Ω R B h
  refine hi σ H δ Ω R _ (Wg.bd h fun ds δ1 H1 Ω1 _ h1 R1 J YY => ?_)
  have Y := YY Ω1 fun _ z => z
  refine ⟨fun i m σ' H' => m = ds.length - i ∧ i ≤ ds.length ∧ ∃ δ' Ω', RepS K H' Ω' σ' δ' ∧ Ext H1 Ω1 H' Ω' ∧ Wg E H' Ω' (PF K mp σ' B) (loopD t fb (ds.drop i) δ'), ⟨_, rfl, Nat.zero_le _, δ1, Ω1, R1, .refl, h1⟩, ?_⟩
  rintro i m σ' H' ⟨rfl, hl, δ', Ω', R', e', w⟩
  by_cases hlt : i < ds.length
  · refine .inr ⟨Y.go i H' Ω' e' hlt, fun σ2 H2 => ∃ δ2 Ω2, RepS K H2 Ω2 σ2 δ2 ∧ Ext H1 Ω1 H2 Ω2 ∧ Wg E H2 Ω2 (PF K mp σ2 B) (loopD t fb (ds.drop (i + 1)) δ2), fun σ2 H2 ⟨δ2, Ω2, R2, e2, w2⟩ => ⟨_, by omega, rfl, hlt, δ2, Ω2, R2, e2, w2⟩, fun x H2 hy => ?_⟩
    obtain ⟨d, hd⟩ : ∃ d, ds[i]? = some d := ⟨ds[i], List.getElem?_eq_getElem hlt⟩
    obtain ⟨rx, hH⟩ := Y.yld i d H' Ω' x H2 e' hd hy
    have R2 : RepS K H2 Ω' σ' δ' := by
      rcases hH with z | ⟨p, xs, hp, z⟩
      · rw [z]; exact R'
      · rw [z]; exact R'.alloc hp
    have e2 : Ext H' Ω' H2 Ω' := by
      rcases hH with z | ⟨p, xs, hp, z⟩
      · rw [z]; exact .refl
      · rw [z]; exact .alloc hp R'.trk
    rw [drop_cons hd] at w
    unfold loopD at w
    cases q : t d δ' with
    | none => rw [q] at w; exact w.elim
    | some δ3 =>
      rw [q] at w
      simp only at w
      refine hg σ' H2 δ' Ω' d x δ3 R2 rx q _ fun σ3 R3 m3 => ?_
      refine hb σ3 H2 δ3 Ω' R3 _ ?_
      cases q4 : fb δ3 with
      | un => rw [q4] at w; exact w
      | er c => rw [q4] at w; exact Wg.ext (P := PF K mp σ' B) (r := .er c) w e2
      | ok fl δ4 =>
        rw [q4] at w
        cases fl with
        | nx => exact fun H4 Ω4 e4 σ4 R4 m4 => ⟨δ4, Ω4, R4, e'.trans (e2.trans e4), (Wg.ext w (e2.trans e4)).same fun j hj => (m4 j hj).trans (m3 j hj)⟩
        | ct => exact fun H4 Ω4 e4 σ4 R4 m4 => ⟨δ4, Ω4, R4, e'.trans (e2.trans e4), (Wg.ext w (e2.trans e4)).same fun j hj => (m4 j hj).trans (m3 j hj)⟩
        | bk => exact fun H4 Ω4 e4 σ4 R4 m4 => w H4 Ω4 (e2.trans e4) σ4 R4 fun j hj => (m4 j hj).trans (m3 j hj)
        | rt d => exact fun H4 Ω4 e4 σ4 R4 m4 => w H4 Ω4 (e2.trans e4) σ4 R4 fun j hj => (m4 j hj).trans (m3 j hj)
        | rto d => exact fun H4 Ω4 e4 σ4 R4 m4 => w H4 Ω4 (e2.trans e4) σ4 R4 fun j hj => (m4 j hj).trans (m3 j hj)
  · have hil : i = ds.length := by omega
    subst hil
    rw [List.drop_length] at w
    exact .inl ⟨Y.stop H' Ω' e', w H' Ω' .refl σ' R' fun _ _ => rfl⟩
noncomputable def whileD (c : DM Bool) (body : DM Fl) : Nat → DM Fl
  | 0 => fun _ => .un
  | n + 1 => c.bd fun b => if b then (fun δ => match body δ with
      | .un => .un
      | .er c => .er c
      | .ok .nx δ2 => whileD c body n δ2
      | .ok .ct δ2 => whileD c body n δ2
      | .ok .bk δ2 => .ok .nx δ2
      | .ok (.rt d) δ2 => .ok (.rt d) δ2
      | .ok (.rto d) δ2 => .ok (.rto d) δ2) else .ret .nx
noncomputable def fIt (f : DM DV) (g : D → Option (List D)) : DM (List D) := (fN f).bd fun a δ => match a with
  | .val d => (match g d with | some ds => .ok ds δ | none => .un)
  | _ => .un
noncomputable def gLstItems : D → Option (List D)
  | .lst ds => some ds
  | _ => none
noncomputable def gTupItems : D → Option (List D)
  | .tup ds => some ds
  | _ => none
theorem yl_list {a : Addr} {vs : List V} {ds : List D} (h : ShL H Ω a vs) (r : Reps K H Ω ds vs) : Yl K (Itl K a) H Ω ds where
  go := fun i H' Ω' e hi => by
    obtain ⟨v, q, _⟩ := r.get (List.getElem?_eq_getElem hi)
    exact ⟨vs, v, (.inl (h.ext e).1), q⟩
  yld := fun i d H' Ω' x H'' e hd hy => by
    obtain ⟨z, hy⟩ := hy
    subst z
    obtain ⟨v, q, rv⟩ := (r.ext e).get hd
    have := hy vs (.inl (h.ext e).1)
    rw [q] at this
    cases this
    exact ⟨rv, .inl rfl⟩
  stop := fun H' Ω' e => ⟨vs, (.inl (h.ext e).1), by rw [r.length]; exact Nat.le_refl _⟩
theorem yl_tup {a : Addr} {vs : List V} {ds : List D} (h : SqT K H a vs) (r : Reps K H Ω ds vs) : Yl K (Itt K a) H Ω ds where
  go := fun i H' Ω' e hi => by
    obtain ⟨v, q, _⟩ := r.get (List.getElem?_eq_getElem hi)
    exact ⟨vs, v, SqT.ext e h, q⟩
  yld := fun i d H' Ω' x H'' e hd hy => by
    obtain ⟨z, hy⟩ := hy
    subst z
    obtain ⟨v, q, rv⟩ := (r.ext e).get hd
    have := hy vs (SqT.ext e h)
    rw [q] at this
    cases this
    exact ⟨rv, .inl rfl⟩
  stop := fun H' Ω' e => ⟨vs, SqT.ext e h, by rw [r.length]; exact Nat.le_refl _⟩
noncomputable def rangeD (lo : Int) (n : Nat) : List D := (List.range n).map fun (k : Nat) => D.int (lo + (k : Int))
theorem yl_range (lo : Int) (n : Nat) : Yl K (Itr lo n) H Ω (rangeD lo n) where
  go := fun i H' Ω' e hi => by
    unfold rangeD at hi
    rw [List.length_map, List.length_range] at hi
    exact hi
  yld := fun i d H' Ω' x H'' e hd hy => by
    obtain ⟨z, hy⟩ := hy
    subst z
    unfold rangeD at hd
    rw [List.getElem?_map] at hd
    cases q : (List.range n)[i]? with
    | none => rw [q] at hd; cases hd
    | some k =>
      rw [q] at hd
      have hk : k = i := by
        obtain ⟨h1, h2⟩ := List.getElem?_eq_some_iff.mp q
        rw [List.getElem_range] at h2
        exact h2.symm
      subst hk
      cases hd
      exact ⟨hy, .inl rfl⟩
  stop := fun H' Ω' e => by
    unfold rangeD
    rw [List.length_map, List.length_range]
    exact Nat.le_refl n
theorem di_list {te : TE} {f : DM DV} (ha : DE K E te f) : DI K E (iList K te) (fIt f gLstItems) := by
  intro σ H δ Ω R Q h
  refine ha.use R h fun a x δ1 H1 Ω1 _ s1 R1 r1 h1 => ?_
  cases a with
  | val d =>
    cases d with
    | lst ds =>
      obtain ⟨b, vs, e1, e2, e3⟩ := (show ∃ a vs, _ from r1)
      exact ⟨b, e1, ⟨vs, .inl e2.1⟩, h1 H1 Ω1 .refl R1 _ fun Ω2 z => yl_list (e2.less z) (e3.less z)⟩
    | _ => exact h1.elim
  | slot i => exact h1.elim
  | fld _ _ => exact h1.elim
  | own ds => exact h1.elim
theorem di_tup {te : TE} {f : DM DV} (ha : DE K E te f) : DI K E (iTup K te) (fIt f gTupItems) := by
  intro σ H δ Ω R Q h
  refine ha.use R h fun a x δ1 H1 Ω1 _ s1 R1 r1 h1 => ?_
  cases a with
  | val d =>
    cases d with
    | tup ds =>
      obtain ⟨b, vs, e1, e2, e3⟩ := (show ∃ a vs, _ from r1)
      exact ⟨b, e1, ⟨vs, e2⟩, h1 H1 Ω1 .refl R1 _ fun Ω2 z => yl_tup e2 (e3.less z)⟩
    | _ => exact h1.elim
  | slot i => exact h1.elim
  | fld _ _ => exact h1.elim
  | own ds => exact h1.elim
noncomputable def small62 (j : Int) : Bool := decide (-(2 ^ 62) ≤ j) && decide (j < 2 ^ 62)
noncomputable def fRng1 (fa : DM (List DV)) : DM (List D) := fa.bd fun as δ => match as with
  | [.val (.int j)] => if small62 j then .ok (rangeD 0 j.toNat) δ else .un
  | _ => .un
noncomputable def fRng2 (fa : DM (List DV)) : DM (List D) := fa.bd fun as δ => match as with
  | [.val (.int i), .val (.int j)] => if small62 i && small62 j then .ok (rangeD i (j - i).toNat) δ else .un
  | _ => .un
theorem di_rng1 {t : TA} {fa : DM (List DV)} (ha : DA K E t fa) : DI K E (iRng1 t) (fRng1 fa) := by
  intro σ H δ Ω R Q h
  refine ha.use R h fun as vs δ1 H1 Ω1 _ s1 R1 r1 h1 => ?_
  (try dsimp only at h1)
  split at h1
  · rename_i j
    split at h1
    · rename_i hj
      unfold small62 at hj
      simp only [Bool.and_eq_true, decide_eq_true_eq] at hj
      obtain ⟨v, q, e1, e2, e3⟩ := r1
      cases (show q = [] from e3)
      cases (show v = .int j from e2)
      exact ⟨j, e1, hj.1, hj.2, h1 H1 Ω1 .refl R1 _ fun Ω2 z => yl_range 0 _⟩
    · exact h1.elim
  · exact h1.elim
noncomputable def under (Ω : Om) : Om := fun b => (Ω b).map fun _ => 0
noncomputable def back (Ω Ω' : Om) : Om := fun b => match Ω' b with
  | some 0 => Ω b
  | some 1 => some 1
  | _ => none
theorem under_none {b : Addr} (h : Ω b = none) : under Ω b = none := by unfold under; rw [h]; rfl
theorem under_some {b : Addr} {k : Nat} (h : Ω b = some k) : under Ω b = some 0 := by unfold under; rw [h]; rfl
theorem back_none (b : Addr) (h : Ω' b = none) : back Ω Ω' b = none := by unfold back; rw [h]
theorem back_zero {b : Addr} (h : Ω' b = some 0) : back Ω Ω' b = Ω b := by unfold back; rw [h] <;> rfl
theorem back_one {b : Addr} (h : Ω' b = some 1) : back Ω Ω' b = some 1 := by unfold back; rw [h] <;> rfl
theorem Ext.back (e : Ext H (under Ω) H' Ω') : Ext H Ω H' (back Ω Ω') where
  keep := fun b o q h => e.keep b o q (h.imp_right fun z => z.imp under_none under_some)
  new := fun b q h => back_none b (e.new b (under_none q) h)
  fr := fun b => by
    constructor
    · intro h
      rw [back_zero ((e.fr b).mp (under_some h))]
      exact h
    · intro h
      unfold DL.back at h
      split at h
      · exact h
      · cases h
      · cases h
  live := e.live
theorem RepS.back (R : RepS K H Ω σ δ) (e : Ext H (under Ω) H' Ω') (ht : ∀ a k, Ω' a = some k → ∃ u, H' a = some u ∧ fixO u = false) : RepS K H' (back Ω Ω') σ δ := by
  refine R.ext e.back (fun b k vs q1 q2 => ⟨e.keep b _ q2 (.inr (.inr (under_some q1))), by rw [back_zero ((e.fr b).mp (under_some q1))]; exact q1⟩) fun a k q => ?_
  unfold DL.back at q
  split at q
  · rename_i z; exact ht a _ z
  · rename_i z; exact ht a _ z
  · cases q
inductive Ro where
  | un | er (c : Str) | ok (d : D) | own (ds : List D)
noncomputable def RoQ (K : PySem.W.Frag) (E : Str → Hp → Prop) (H : Hp) (Ω : Om) (Q : VK) : Ro → Prop
  | .un => False
  | .er c => ∀ H' Ω', Ext H Ω H' Ω' → Trk H' Ω' → E c H'
  | .ok d => ∀ H' Ω', Ext H Ω H' Ω' → Trk H' Ω' → ∀ v, Rep K H' Ω' d v → Q v H'
  | .own ds => ∀ H' Ω', Ext H Ω H' Ω' → Trk H' Ω' → ∀ v, RepDV K H' Ω' [] (.own ds) v → Q v H'
noncomputable def spP (K : PySem.W.Frag) (ce : Str → Value) (n : Nat) (M : List D → Ro) : Sp := fun vs H Q E => vs.length = n ∧ ∃ Ω ds, Trk H Ω ∧ (∀ b k, Ω b = some k → k = 0) ∧ Reps K H Ω ds vs ∧ RoQ K (fun c H' => E (ce c) none H') H Ω Q (M ds)
noncomputable def fCall (n : Nat) (fa : DM (List DV)) (M : List D → Ro) : DM DV := fa.bd fun as δ => match valsOf as with
  | none => .un
  | some ds => if ds.length = n then (match M ds with
    | .un => .un
    | .er c => .er c
    | .ok d => .ok (.val d) δ
    | .own ds => .ok (.own ds) δ) else .un
theorem trk_under (t : Trk H Ω) : Trk H (under Ω) := fun a k q => by
  unfold under at q
  cases e : Ω a with
  | none => rw [e] at q; cases q
  | some j => exact t a j e
theorem under_zero : ∀ b k, under Ω b = some k → k = 0 := fun b k q => by
  unfold under at q
  cases e : Ω b with
  | none => rw [e] at q; cases q
  | some j => rw [e] at q; cases q; rfl
theorem de_call {ce : Str → Value} {n : Nat} {M : List D → Ro} {Ex : XK} {t : TA} {fa : DM (List DV)} (hE : ∀ c H', E c H' → Ex (ce c) none H') (ha : DA K E t fa) : DE K E (tCall (spP K ce n M) [] Ex t) (fCall n fa M) := by
  intro σ H δ Ω R Q h
  refine ha.use R h fun as vs δ1 H1 Ω1 _ s1 R1 r1 h1 => ?_
  (try dsimp only at h1)
  cases q1 : valsOf as with
  | none => rw [q1] at h1; exact h1.elim
  | some ds =>
    rw [q1] at h1
    dsimp only at h1
    split at h1
    · rename_i hn
      have r := r1.vals q1
      show spP K ce n M (vs ++ []) H1 Q Ex
      rw [List.append_nil]
      refine ⟨by rw [← r.length]; exact hn, under Ω1, ds, trk_under R1.trk, under_zero, r.less fun b q => under_none q, ?_⟩
      cases q3 : M ds with
      | un => rw [q3] at h1; exact h1
      | er c => rw [q3] at h1; exact fun H' Ω' e' t' => hE c H' (h1 H' _ e'.back (R1.back e' t').trk)
      | ok d => rw [q3] at h1; exact fun H' Ω' e' t' v rv => h1 H' _ e'.back (R1.back e' t') v (Rep.less back_none rv)
      | own es =>
        rw [q3] at h1
        intro H' Ω' e' t' v ⟨a, ws, z1, z2, z3, z4⟩
        exact h1 H' _ e'.back (R1.back e' t') v ⟨a, ws, z1, z2, back_one z3, z4.less back_none⟩
    · exact h1.elim
noncomputable def captD (δ : DSt) (sel : List (Option Nat)) : DSt := sel.map fun o => match o with
  | none => .no
  | some j => match δ[j]? with | some (.sh d) => .sh d | _ => .no
noncomputable def compD (t : D → DSt → Option DSt) (fc : DM Bool) (fe : DM DV) : List D → DSt → List D → Option (List D)
  | [], _, out => some out
  | d :: ds, δ, out => match t d δ with
    | none => none
    | some δ1 => match fc δ1 with
      | .ok true δ2 => (match fN fe δ2 with
        | .ok (.val v) δ3 => if out.length < sizeLine then compD t fc fe ds δ3 (out ++ [v]) else none
        | _ => none)
      | .ok false δ2 => compD t fc fe ds δ2 out
      | _ => none
noncomputable def fLC (fi : DM (List D)) (t : D → DSt → Option DSt) (fc : DM Bool) (fe : DM DV) (sel : List (Option Nat)) : DM DV := fi.bd fun ds δ => match compD t fc fe ds (captD δ sel) [] with
  | some out => .ok (.own out) δ
  | none => .un
noncomputable def EN : Str → Hp → Prop := fun _ _ => False
theorem RepS.capt (R : RepS K H Ω σ δ) (sel : List (Option Nat)) (hl : ∀ b, Ω b = none → Ω' b = none) (ht : Trk H Ω') : RepS K H Ω' (capt σ sel) (captD δ sel) := by
  refine ⟨by unfold L2.capt captD; rw [List.length_map, List.length_map], fun i s h => ?_, ht⟩
  unfold captD at h
  rw [List.getElem?_map] at h
  cases q : sel[i]? with
  | none => rw [q] at h; cases h
  | some o =>
    rw [q] at h
    cases o with
    | none => cases h; trivial
    | some j =>
      have h : (match δ[j]? with | some (.sh d) => Sl.sh d | _ => .no) = s := Option.some.inj h
      have e : (L2.capt σ sel)[i]? = some ((σ[j]?).join) := by unfold L2.capt; rw [List.getElem?_map, q]; rfl
      rw [e]
      split at h
      · rename_i d hd
        subst h
        obtain ⟨v, e1, e2⟩ := R.sl j _ hd
        exact ⟨v, e1, Rep.less hl e2⟩
      · subst h; trivial
theorem Ext.hide {p : Addr} (e : Ext H Ω H' Ω') (hp : Ω p = some 0) (hl : ∃ vs, H p = some vs ∧ fixO vs = false) : Ext H (ownTo Ω p 1) H' (ownTo Ω' p 1) where
  keep := fun b o q h => by
    by_cases hb : b = p
    · subst hb
      exact e.keep b o q (.inr (.inr hp))
    · refine e.keep b o q ?_
      unfold ownTo at h
      rw [if_neg hb] at h
      exact h
  new := fun b q h => by
    unfold ownTo at q ⊢
    split at q
    · cases q
    · rename_i hb
      rw [if_neg hb]
      exact e.new b q h
  fr := fun b => by
    unfold ownTo
    split
    · constructor <;> intro q <;> cases q
    · exact e.fr b
  live := e.live
theorem Ext.put {p : Addr} {o : HO} (hl : ∃ vs, H p = some vs ∧ fixO vs = false) (hp : Ω p = some 1) : Ext H Ω (upd H p o) Ω where
  keep := fun b o' q h => by
    have hb : b ≠ p := by
      rintro rfl
      obtain ⟨vs, e, f⟩ := hl
      rw [e] at q
      cases q
      rcases h with h | h | h
      · rw [f] at h; cases h
      · rw [hp] at h; cases h
      · rw [hp] at h; cases h
    rw [upd_ne hb]
    exact q
  new := fun _ q _ => q
  fr := fun _ => Iff.rfl
  live := fun b q => by
    unfold upd at q
    split at q
    · cases q
    · exact q
theorem put_ext {p : Addr} {xs : List V} (hl : ∃ vs, H p = some vs ∧ fixO vs = false) : Ext H (ownTo Ω p 1) (upd H p (.lst xs)) (ownTo Ω p 1) := .put hl (by unfold ownTo; rw [if_pos rfl])
theorem own_of_none {p : Addr} (hp : Ω p ≠ none) : ∀ b, Ω b = none → ownTo Ω p 1 b = none := fun b q => by
  unfold ownTo
  rw [if_neg]
  · exact q
  · rintro rfl; exact hp q
theorem none_of_own {p : Addr} : ∀ b, ownTo Ω p 1 b = none → Ω b = none := fun b q => by
  unfold ownTo at q
  split at q
  · cases q
  · exact q
theorem Rep.put {p : Addr} {xs : List V} {d : D} {v : V} (h : Rep K H Ω d v) (hl : ∃ vs, H p = some vs ∧ fixO vs = false) (hp : Ω p ≠ none) : Rep K (upd H p (.lst xs)) Ω d v :=
  Rep.less none_of_own ((Rep.less (own_of_none hp) h).ext (put_ext hl))
theorem Reps.put {p : Addr} {xs : List V} {ds : List D} {vs : List V} (h : Reps K H Ω ds vs) (hl : ∃ vs, H p = some vs ∧ fixO vs = false) (hp : Ω p ≠ none) : Reps K (upd H p (.lst xs)) Ω ds vs :=
  Reps.less none_of_own ((Reps.less (own_of_none hp) h).ext (put_ext hl))
theorem RepS.put {p : Addr} {xs : List V} (R : RepS K H Ω σ δ) (hp : Ω p = some 0 ∨ Ω p = some 1) : RepS K (upd H p (.lst xs)) Ω σ δ := by
  have hl : ∃ vs, H p = some vs ∧ fixO vs = false := hp.elim (R.trk p 0) (R.trk p 1)
  have hp' : Ω p ≠ none := by rcases hp with z | z <;> (rw [z]; exact Option.some_ne_none _)
  refine ⟨R.len, fun i s h => ?_, fun a k q => ?_⟩
  · refine (R.sl i s h).mv (fun _ _ z => z.put hl hp') (fun _ _ z => z.put hl hp') fun a ws e3 e2 => ?_
    have ha : a ≠ p := by rintro rfl; rcases hp with z | z <;> (rw [z] at e3; cases e3)
    exact ⟨by rw [upd_ne ha]; exact e2, e3⟩
  · by_cases ha : a = p
    · subst ha; exact ⟨_, upd_same, rfl⟩
    · obtain ⟨ws, e, f⟩ := R.trk a k q
      exact ⟨ws, by rw [upd_ne ha]; exact e, f⟩
theorem RepS.relabel (R : RepS K H Ω σ δ) (h0 : ∀ b, Ω b = none → Ω' b = none) (h2 : ∀ b k, Ω b = some (k + 2) → Ω' b = some (k + 2)) (ht : Trk H Ω') : RepS K H Ω' σ δ :=
  ⟨R.len, fun i s h => (R.sl i s h).mv (fun _ _ => Rep.less h0) (fun _ _ => Reps.less h0) fun a ws e3 e2 => ⟨e2, h2 a i e3⟩, ht⟩
theorem trk_own {p : Addr} {k : Nat} (t : Trk H Ω) (hl : ∃ vs, H p = some vs ∧ fixO vs = false) : Trk H (ownTo Ω p k) := fun a j q => by
  by_cases ha : a = p
  · subst ha; exact hl
  · unfold ownTo at q
    rw [if_neg ha] at q
    exact t a j q
theorem de_lc {wi : TI} {g : TG} {ts : TT} {te : TE} {sel : List (Option Nat)} {fi : DM (List D)} {t : D → DSt → Option DSt} {fc : DM Bool} {fe : DM DV} (hi : DI K E wi fi) (hg : DG K [] g t) (hc : DT K EN ts fc) (he : DE K EN te fe) :
    DE K E (tLC wi g ts te sel) (fLC fi t fc fe sel) := by
  intro σ H δ Ω R Q h
  refine hi σ H δ Ω R _ (Wg.bd h fun ds δ1 H1 Ω1 _ h1 R1 J YY p hp => ?_)
  have Y := YY (under Ω1) fun _ z => under_none z
  have he := he.norm
  (try dsimp only at h1)
  cases hres : compD t fc fe ds (captD δ1 sel) [] with
  | none => rw [hres] at h1; exact h1.elim
  | some rs =>
    rw [hres] at h1
    have R0 : RepS K (upd H1 p (.lst [])) (ownTo (own1 (under Ω1) p) p 0) (capt σ sel) (captD δ1 sel) := by
      have r1 := (R1.capt sel (Ω' := under Ω1) (fun b q => under_none q) (trk_under R1.trk)).alloc1 (xs := []) hp
      refine r1.relabel (fun b q => ?_) (fun b k q => ?_) (trk_own r1.trk ⟨_, upd_same, rfl⟩)
      · unfold ownTo
        rw [if_neg]
        · exact q
        · rintro rfl
          unfold own1 at q
          rw [if_pos rfl] at q
          cases q
      · unfold ownTo
        rw [if_neg]
        · exact q
        · rintro rfl
          unfold own1 at q
          rw [if_pos rfl] at q
          cases q
    have o0 : ownTo (own1 (under Ω1) p) p 0 p = some 0 := by unfold ownTo; rw [if_pos rfl]
    have e0 : Ext H1 (under Ω1) (upd H1 p (.lst [])) (ownTo (ownTo (own1 (under Ω1) p) p 0) p 1) := by
      have q : ownTo (ownTo (own1 (under Ω1) p) p 0) p 1 = own1 (under Ω1) p := by
        funext b
        unfold ownTo own1
        split <;> rfl
      rw [q]
      exact .alloc1 hp (trk_under R1.trk)
    refine ⟨fun i m σ' H' => m = ds.length - i ∧ i ≤ ds.length ∧ ∃ δ' Ω' out ws, RepS K H' Ω' σ' δ' ∧ Ω' p = some 0 ∧ H' p = some (.lst ws) ∧ Reps K H' Ω' out ws ∧ Ext H1 (under Ω1) H' (ownTo Ω' p 1) ∧ compD t fc fe (ds.drop i) δ' out = some rs,
      ⟨_, rfl, Nat.zero_le _, _, _, [], [], R0, o0, upd_same, .nil, e0, hres⟩, ?_⟩
    rintro i m σ' H' ⟨rfl, hl, δ', Ω', out, ws, R', op, hw, rw', e', w⟩
    have t' : Trk H' (ownTo Ω' p 1) := trk_own R'.trk ⟨_, hw, rfl⟩
    have np : ∀ b, Ω' b = none → ownTo Ω' p 1 b = none := own_of_none (by rw [op]; exact Option.some_ne_none _)
    by_cases hlt : i < ds.length
    · refine .inr ⟨Y.go i H' _ e' hlt, fun σ2 H2 => ∃ δ' Ω' out ws, RepS K H2 Ω' σ2 δ' ∧ Ω' p = some 0 ∧ H2 p = some (.lst ws) ∧ Reps K H2 Ω' out ws ∧ Ext H1 (under Ω1) H2 (ownTo Ω' p 1) ∧ compD t fc fe (ds.drop (i + 1)) δ' out = some rs,
        fun σ2 H2 h2 => ⟨_, by omega, rfl, hlt, h2⟩, fun x H2 hy => ?_⟩
      obtain ⟨d, hd⟩ : ∃ d, ds[i]? = some d := ⟨ds[i], List.getElem?_eq_getElem hlt⟩
      obtain ⟨rx, hH⟩ := Y.yld i d H' _ x H2 e' hd hy
      have R2 : RepS K H2 Ω' σ' δ' := by
        rcases hH with z | ⟨q, xs, hq, z⟩
        · rw [z]; exact R'
        · rw [z]; exact R'.alloc hq
      have e2 : Ext H' Ω' H2 Ω' := by
        rcases hH with z | ⟨q, xs, hq, z⟩
        · rw [z]; exact .refl
        · rw [z]; exact .alloc hq R'.trk
      rw [drop_cons hd] at w
      unfold compD at w
      cases q : t d δ' with
      | none => rw [q] at w; cases w
      | some δ3 =>
        rw [q] at w
        dsimp only at w
        refine hg σ' H2 δ' Ω' d x δ3 R2 (Rep.less none_of_own rx) q _ fun σ3 R3 _ => ?_
        refine hc σ3 H2 δ3 Ω' R3 _ ?_
        cases q4 : fc δ3 with
        | un => rw [q4] at w; cases w
        | er c => rw [q4] at w; cases w
        | ok b δ4 =>
          rw [q4] at w
          intro H4 Ω4 e4 R4
          have e24 := e2.trans e4
          have op4 : Ω4 p = some 0 := (e24.fr p).mp op
          have hw4 : H4 p = some (.lst ws) := e24.keep p _ hw (.inr (.inr op))
          cases b with
          | false =>
            refine iteF ?_
            exact ⟨δ4, Ω4, out, ws, R4, op4, hw4, rw'.ext e24, e'.trans (e24.hide op ⟨_, hw, rfl⟩), w⟩
          | true =>
            refine iteT ?_
            dsimp only at w
            refine he σ3 H4 δ4 Ω4 R4 _ ?_
            cases q5 : fN fe δ4 with
            | un => rw [q5] at w; cases w
            | er c => rw [q5] at w; cases w
            | ok z δ5 =>
              rw [q5] at w
              cases z with
              | slot j => cases w
              | fld _ _ => cases w
              | own es => cases w
              | val v =>
                dsimp only at w
                split at w
                · rename_i hz
                  intro H5 Ω5 e5 R5 x5 r5
                  have e25 := e24.trans e5
                  have op5 : Ω5 p = some 0 := (e25.fr p).mp op
                  have hw5 : H5 p = some (.lst ws) := e25.keep p _ hw (.inr (.inr op))
                  have hn5 : Ω5 p ≠ none := by rw [op5]; exact Option.some_ne_none _
                  refine ⟨ws, hw5, by rw [← rw'.length]; exact hz, δ5, Ω5, out ++ [v], ws ++ [x5], R5.put (.inl op5), op5, upd_same, ?_, ?_, w⟩
                  · exact (((rw'.ext e25).append (.cons r5 .nil))).put ⟨_, hw5, rfl⟩ hn5
                  · exact (e'.trans (e25.hide op ⟨_, hw, rfl⟩)).trans (put_ext ⟨_, hw5, rfl⟩)
                · cases w
    · have hil : i = ds.length := by omega
      subst hil
      rw [List.drop_length] at w
      cases w
      refine .inl ⟨Y.stop H' _ e', h1 H' _ e'.back (R1.back e' t') _ ⟨p, ws, rfl, hw, back_one (by unfold ownTo; rw [if_pos rfl]), rw'.less fun b q => back_none b (np b q)⟩⟩
end
end DL
namespace L2
open PySem PySem.Spec PyProof.Rows
section
variable {X : Cx}
noncomputable def rCatS : R2 := fun x y H Q => ∃ l b xs zs, x = .ref l ∧ y = .ref b ∧ Rd H l (.lst xs) ∧ Rd H b (.lst zs) ∧ xs.length + zs.length ≤ sizeLine ∧ ∀ p, H p = none → Q (.ref p) (upd H p (.lst (xs ++ zs)))
theorem Inv.plain {pins : List (Addr × Obj)} {σ : St} {H : Hp} {s : Shared} {a : Addr} {xs : List V} (I : Inv X pins σ H s) (h : Rd H a (.lst xs)) :
    ∃ (its : List Value) (n : Nat), Vals xs its ∧ s.heap.get? a = some { cls := .type "list", data := .seq its.toArray n } ∧ xs.length ≤ sizeLine := by
  obtain ⟨z, its, n, r, e⟩ := (show ObjOk X.prog X.w H s.heap a (.lst xs) from h.ok I.hok)
  exact ⟨its, n, r, e, z⟩
theorem op_catS : OpR X (binaryOp .Add) rCatS := by
  intro pins s σ H x y v u Q I rx ry h
  obtain ⟨l, b, xs, zs, rfl, rfl, hH, hB, hz, q⟩ := h
  cases rx
  cases ry
  obtain ⟨its, n, r, e, z⟩ := I.plain hH
  obtain ⟨its2, n2, r2, e2, z2⟩ := I.plain hB
  have hl := r.length
  have hl2 := r2.length
  refine PySem.P.add_list e e2 ?_ (by rw [List.size_toArray, List.size_toArray]; omega)
  have ea : its.toArray ++ its2.toArray = (its ++ its2).toArray := by simp
  rw [ea]
  exact ⟨.ref _, _, I.lnew (t' := s.toks) (r.append r2) (by rw [List.length_append]; omega), rfl, q _ I.fresh⟩
inductive TyD (K : PySem.W.Frag) (H : Hp) : V → String → Prop where
  | non : TyD K H .non "NoneType"
  | bl (x : Bool) : TyD K H (.bl x) "bool"
  | int (i : Int) : TyD K H (.int i) "int"
  | str (x : Str) : TyD K H (.str x) "str"
  | lst {a : Addr} {xs : List V} (e : SqL K H a xs) : TyD K H (.ref a) "list"
  | tup {a : Addr} {xs : List V} (e : SqT K H a xs) : TyD K H (.ref a) "tuple"
theorem call_isinst : CallR X (.builtin "isinstance") (fun xs H Q => ∃ x T t b, xs = [x, .ty T] ∧ TyD X.K H x t ∧ PySem.W.kitOne X.K (.type t) (.type T) = some b ∧ Q (.bl b) H) := by
  intro pins s σ H xs us Q I r h
  obtain ⟨x, T, t, b, rfl, ty, e, q⟩ := h
  obtain ⟨u, c, rfl, rx, rc⟩ := vals2 r
  cases rc
  have fin : ∀ tk, EP X pins σ Q (.bool b) { s with toks := tk } := fun tk => ⟨.bl b, H, I.tok tk, rfl, q⟩
  cases ty with
  | non => cases (show u = Value.none from rx); exact PySem.W.kia_one PySem.W.kitx_none I.kIn True.intro e (fun z => nomatch z) fin
  | bl y => cases (show u = Value.bool y from rx); exact PySem.W.kia_one PySem.W.kitx_bool I.kIn True.intro e (fun z => nomatch z) fin
  | int i => obtain ⟨t, z⟩ := (show ∃ t, u = Value.int i t from rx); cases z; exact PySem.W.kia_one PySem.W.kitx_int I.kIn True.intro e (fun z => nomatch z) fin
  | str y => obtain ⟨t, z⟩ := (show ∃ t, u = Value.str y t from rx); cases z; exact PySem.W.kia_one PySem.W.kitx_str I.kIn True.intro e (fun z => nomatch z) fin
  | @lst a ys ea =>
    cases (show u = Value.ref a from rx)
    obtain ⟨its, _, ⟨o, n, h1, h2, _⟩, _⟩ := I.list ea
    exact PySem.W.kia_one PySem.W.kitx_list I.kIn ⟨o, h1, h2⟩ e (fun z => nomatch z) fin
  | @tup a ys ea =>
    cases (show u = Value.ref a from rx)
    obtain ⟨its, _, ⟨o, h1, h2, _⟩, _⟩ := I.tuple ea
    exact PySem.W.kia_one PySem.W.kitx_tuple I.kIn ⟨o, h1, h2⟩ e (fun z => nomatch z) fin
end
end L2
namespace L2
open PySem PySem.Spec PyProof.Rows
section
variable {X : Cx}
end
end L2
namespace L2
open PySem PySem.Spec PyProof.Rows
section
variable {X : Cx}
theorem vals_bl {bs : List Bool} {its : List Value} (r : Vals (bs.map V.bl) its) : ∀ (i : Nat) (v : Value), its.toArray[i]? = some v → v = .bool (bs.getD i false) := by
  induction bs generalizing its with
  | nil => cases r; intro i v h; simp at h
  | cons n ns ih =>
    cases r with
    | cons r1 r2 =>
      cases r1
      intro i v h
      cases i with
      | zero => simpa using h.symm
      | succ i => simpa using ih r2 i v (by simpa using h)
theorem range_get {α : Type} (bs : List α) (d : α) (p : (Nat → Bool) → Prop) : (List.range bs.length).map (fun i => bs.getD i d) = bs := by
  apply List.ext_getElem?
  intro i
  rw [List.getElem?_map]
  by_cases h : i < bs.length
  · rw [List.getElem?_range h, List.getElem?_eq_getElem h]
    simp [List.getD_eq_getElem?_getD, List.getElem?_eq_getElem h]
  · rw [List.getElem?_eq_none (by simpa using h), List.getElem?_eq_none (by simpa using h)]
    rfl
theorem range_all (bs : List Bool) : (List.range bs.length).all (fun i => bs.getD i false) = bs.all id := by
  have h := congrArg (fun l => List.all l id) (range_get bs false (fun _ => True))
  simpa [List.all_map] using h
theorem call_allL (hc : X.calm = true) : CallR X (.builtin "all") (fun xs H Q => ∃ (p : Addr) (bs : List Bool), xs = [.ref p] ∧ SqL X.K H p (bs.map V.bl) ∧ Q (.bl (bs.all id)) H) := by
  intro pins s σ H xs us Q I r h
  obtain ⟨p, bs, rfl, hq, q⟩ := h
  obtain ⟨u, rfl, rx⟩ := vals1 r
  cases rx
  obtain ⟨its, rv, pl, hz⟩ := I.list hq
  have hlt : p < s.heap.objs.size := by obtain ⟨o, e, _⟩ := pl.isList; exact Heap.lt_size e
  have hl : bs.length = its.toArray.size := by
    have := rv.length
    rw [List.length_map] at this
    rw [List.size_toArray]; exact this
  refine call_all_walk (wpAny_pyIter_list pl.isList ?_)
  refine ⟨s.heap.objs.size, [s.heap.objs.size, p], [s.heap.objs.size], _, _, _, fun i => bs.getD i false, rfl, Walks.list (A := X.A.in1) (I.ok.hd hc) _ p (Nat.ne_of_lt hlt) its.toArray, ⟨⟨_, Heap.get?_push_size _ rfl, rfl, rfl⟩, pl.isList.push _⟩, ?_, fun h' tk hk => ?_⟩
  · intro i v s Q E hP hQ
    rw [vals_bl rv i v hP]
    exact wpAny_truthy_bool hQ
  · rw [← hl, range_all]
    exact ⟨.bl (bs.all id), H, I.kept (old_kept hk), rfl, q⟩
noncomputable def tabD (kvs : List (Str × Int)) : List (Str × KTD.Dat) := kvs.map fun p => (p.1, KTD.Dat.flat (.int p.2))
noncomputable def TabK (K : PySem.W.Frag) (a : Addr) (kvs : List (Str × Int)) : Prop :=
  KTD.tabLook (KTD.datLooks fun b => K.lookup b) (fun b => K.lookup b) a (tabD kvs) = true
theorem TabK.here {K : PySem.W.Frag} {a : Addr} {kvs : List (Str × Int)} {s : Shared} (T : TabK K a kvs) (x : K.In s.heap) : KTD.Here s.heap s.heap a (tabD kvs) := ⟨PySem.W.kt_text_in x T, fun _ _ e => e⟩
end
end L2
namespace PySem
open AutoSeq1 (wpAny_loadPart')
set_option maxRecDepth 100000
noncomputable def kwS (t : Tok) : List (Str × Value) := [(Str.ofString "start", .int 1 t)]
set_option maxHeartbeats 4000000 in
theorem meets_enumerate_start (l : Addr) (items : Array Value) (n : Nat) (t : Tok) :
    Meets (Builtin.«enumerate.__new__» ⟨[.type "enumerate", .ref l], kwS t⟩) (fun _ R s => s.heap.get? l = some { cls := .type "list", dict := none, data := .seq items n, slots := #[] } ∧
      R (.ok (.ret (.ref (s.heap.push { cls := .type "list_iterator", data := .fields #[.ref l, .int 0 0] }).objs.size)))
        { s with heap := (s.heap.push { cls := .type "list_iterator", data := .fields #[.ref l, .int 0 0] }).push { cls := .type "enumerate", data := .fields #[.none, .bool false, .ref s.heap.objs.size, rawInt 1, .none, .none] } }) :=
  .of_wp fun prog w A R s h => by
    obtain ⟨hp, g, d, tk, os⟩ := s; obtain ⟨hl, h⟩ := h
    have hsub := sub_enumerate
    have hL : Heap.IsList (Shared.heap ⟨hp, g, d, tk, os⟩) l items := ⟨_, hl, rfl, n, rfl⟩
    unfold kwS
    wp_walk using wpAny_loadPart' hl
    refine wpAny_stack_any fun st => wpAny_pure ?_
    split
    · rename_i c _ _ _ _ _
      cases (c == Value.type "enumerate")
      · wp_walk using wpAny_loadPart' hl, wpAny_pyIter_list hL
        exact ⟨_, rfl, h⟩
      · wp_walk using wpAny_loadPart' hl, wpAny_pyIter_list hL
        exact ⟨_, rfl, h⟩
    · wp_walk using wpAny_loadPart' hl, wpAny_pyIter_list hL
      exact ⟨_, rfl, h⟩
section
variable {prog : Program} {w : World} {A : Around} {E : Value → Shared → Prop} {s : Shared}
end
end PySem
namespace L2
open PySem PySem.Spec PyProof.Rows
section
variable {X : Cx} {pins : List (Addr × Obj)} {σ : List (Option V)} {H : Hp} {s : Shared} {h' : Heap}
end
section
variable {X : Cx}
end
end L2
namespace DL
open PySem PySem.Spec PyProof.Rows L2
noncomputable def runP (body : DM Fl) (n : Nat) (ds : List D) : Ro := match body (ds.map .sh ++ List.replicate (n - ds.length) .no) with
  | .ok (.rt d) _ => .ok d
  | .ok (.rto es) _ => .own es
  | .ok .nx _ => .ok .non
  | _ => .un
section
variable {P : Program} {w : World} {K : PySem.W.Frag} {mg : Str → Option Value} {base : Heap} {H : Hp} {Ω : Om}
theorem RepS.start {N : List Str} {ds : List D} {vs : List V} (hr : Reps K H Ω ds vs) (ht : Trk H Ω) : RepS K H Ω (L2.start N vs) (ds.map .sh ++ List.replicate (N.length - ds.length) .no) := by
  have hl := hr.length
  refine ⟨by unfold L2.start; rw [List.length_append, List.length_append, List.length_map, List.length_map, List.length_replicate, List.length_replicate, hl], fun i s h => ?_, ht⟩
  by_cases hi : i < ds.length
  · rw [List.getElem?_append_left (by rw [List.length_map]; exact hi), List.getElem?_map] at h
    obtain ⟨d, hd⟩ : ∃ d, ds[i]? = some d := ⟨ds[i], List.getElem?_eq_getElem hi⟩
    rw [hd] at h
    cases h
    obtain ⟨v, hv, r⟩ := hr.get hd
    refine ⟨v, ?_, r⟩
    unfold L2.start
    rw [List.getElem?_append_left (by rw [List.length_map, ← hl]; exact hi), List.getElem?_map, hv]
    rfl
  · rw [List.getElem?_append_right (by rw [List.length_map]; omega), List.getElem?_replicate] at h
    split at h
    · cases h; trivial
    · cases h
theorem fnP {ce : Str → Value} {x qual : Str} {st : Stmt} {f : Addr} {fd : FuncData} {N ps : List Str} {k : Nat} {body : DM Fl} (F : Fun K x qual st f fd) (S : FnScope N ps (defScope st))
    (hb : ∀ (cdv : Value) (A : Around) (outer : List Env) (s : Shared) (H : Hp) (E : XK), Room k (A.deeper (envOfC qual (defScope st) s.heap.objs.size f cdv)) →
      PSsD (cxOf CX0 P w K mg base N qual (defScope st) f cdv A outer s H E).nox EN [] (defBody st) body) : FnOk P w K mg base CX0 (k + 1) f fd ps (spP K ce ps.length (runP body N.length)) := by
  refine F.ok S (fun vs H Q E h => h.1) (fun cdv A outer s H vs Q E hr h => ?_)
  obtain ⟨ts, p, d⟩ := hb cdv A outer s H E hr
  refine ⟨ts, p, ?_⟩
  obtain ⟨hl, Ω, ds, ht, h0, hr, hq⟩ := h
  refine d (L2.start N vs) H _ Ω (RepS.start hr ht) _ ?_
  unfold runP at hq
  cases e : body (ds.map .sh ++ List.replicate (N.length - ds.length) .no) with
  | un => rw [e] at hq; exact hq
  | er c => rw [e] at hq; exact hq.elim
  | ok fl δ' =>
    rw [e] at hq
    cases fl with
    | nx => exact fun H' Ω' ex σ' R' _ => hq H' Ω' ex R'.trk .non rfl
    | bk => exact hq.elim
    | ct => exact hq.elim
    | rt d => exact fun H' Ω' ex σ' R' _ v r => hq H' Ω' ex R'.trk v r
    | rto es => exact fun H' Ω' ex σ' R' _ v r => hq H' Ω' ex R'.trk v r
end
section
variable {X : Cx} {E : Str → Hp → Prop} {pos : Pos} {a b c e : Expr} {f g : DM DV} {mp : List Nat}
theorem ped_var (i : Nat) {x : Str} (hN : X.N[i]? = some x := by rfl) (hv : Vis X.env.scope x := by first | exact Or.inl rfl | exact Or.inr (Or.inl rfl) | exact Or.inr (Or.inr rfl)) (hd : (x == ("__debug__" : Str)) = false := by decide)
    (hcd : (x == ("__classdict__" : Str)) = false := by decide) : PED X E (.Name x pos) (fVar i) := ⟨_, pv i hN hv hd hcd, de_var⟩
theorem ped_int {i j} : PED X E (.Constant (.int i) j pos) (fC (.int i)) := ⟨_, pe_int, de_c fun _ _ => rfl⟩
theorem ped_bl {i j} : PED X E (.Constant (.bool i) j pos) (fC (.bl i)) := ⟨_, pe_bl, de_c fun _ _ => rfl⟩
theorem ped_non {j} : PED X E (.Constant .none j pos) (fC .non) := ⟨_, pe_non, de_c fun _ _ => rfl⟩
theorem ped_str {x j} : PED X E (.Constant (.str x) j pos) (fC (.str x)) := ⟨_, pe_str, de_c fun _ _ => rfl⟩
noncomputable def GlobD (K : PySem.W.Frag) (mg : Str → Option Value) (x : Str) (d : D) : Prop := ∃ u v, mg x = some u ∧ RelV v u ∧ ∀ H Ω, Rep K H Ω d v
theorem ped_glob {x : Str} {d : D} (hm : GlobD X.K X.mg x d) (hg : Gl X x := by rfl) (hd : (x == ("__debug__" : Str)) = false := by decide) : PED X E (.Name x pos) (fC d) := by
  obtain ⟨u, v, h1, h2, h3⟩ := hm
  exact ⟨_, pe_glob hg h1 h2 hd, de_c h3⟩
noncomputable def cmul (i j : Int) : Bool := (decide (-18446744073709551616 < i) && decide (i < 18446744073709551616)) || (decide (-18446744073709551616 < j) && decide (j < 18446744073709551616))
noncomputable def cdiv (j : Int) : Bool := decide (0 < j) && decide (j < 1073741824)
noncomputable def gAdd : D → D → Option DV
  | .int i, .int j => some (.val (.int (i + j)))
  | .str x, .str y => if x.length + y.length ≤ sizeLine then some (.val (.str (x ++ y))) else none
  | .lst xs, .lst ys => if xs.length + ys.length ≤ sizeLine then some (.own (xs ++ ys)) else none
  | _, _ => none
noncomputable def gSub : D → D → Option DV
  | .int i, .int j => some (.val (.int (i - j)))
  | _, _ => none
noncomputable def mulok (n : Nat) (k : Int) : Bool := decide (-(2 ^ 62) ≤ k) && decide (k < 2 ^ 62) && decide (n * k.toNat ≤ sizeLine)
noncomputable def gMul : D → D → Option DV
  | .int i, .int j => if cmul i j then some (.val (.int (i * j))) else none
  | .str z, .int k => if mulok z.length k then some (.val (.str (Txt.mul z k))) else none
  | .lst ds, .int k => if mulok ds.length k then some (.own (List.replicate k.toNat ds).flatten) else none
  | _, _ => none
noncomputable def gDiv : D → D → Option DV
  | .int i, .int j => if cdiv j then some (.val (.int (i / j))) else none
  | _, _ => none
noncomputable def gMod : D → D → Option DV
  | .int i, .int j => if decide (0 < j) then some (.val (.int (i % j))) else none
  | _, _ => none
theorem rB_lst {K : PySem.W.Frag} {H : Hp} {Ω : Om} {ds : List D} {v : V} (h : RepB K H Ω (.lst ds) v) : ∃ a vs, v = .ref a ∧ Rd H a (.lst vs) ∧ Reps K H Ω ds vs := h
theorem rB_tup {K : PySem.W.Frag} {H : Hp} {Ω : Om} {ds : List D} {v : V} (h : RepB K H Ω (.tup ds) v) : ∃ a vs, v = .ref a ∧ SqT K H a vs ∧ Reps K H Ω ds vs := (show ∃ a vs, _ from h)
theorem dr_add {K : PySem.W.Frag} : DR K (fun x y H Q => rI0 (fun i j => .int (i + j)) x y H Q ∨ (∃ i j, x = .str i ∧ y = .str j ∧ i.length + j.length ≤ sizeLine ∧ Q (.str (i ++ j)) H) ∨ rCatS x y H Q) gAdd := by
  intro E σ H δ Ω x y d1 d2 z Q R r1 r2 hz h
  unfold gAdd at hz
  split at hz
  · cases hz
    exact .inl ⟨_, _, r1, r2, h.now R rfl⟩
  · split at hz
    · rename_i hl
      cases hz
      exact .inr (.inl ⟨_, _, r1, r2, hl, h.now R rfl⟩)
    · cases hz
  · split at hz
    · rename_i hl
      cases hz
      obtain ⟨a, vs, e1, e2, e3⟩ := rB_lst r1
      obtain ⟨b, ws, q1, q2, q3⟩ := rB_lst r2
      refine .inr (.inr ⟨a, b, vs, ws, e1, q1, e2, q2, by rw [← e3.length, ← q3.length]; exact hl, fun p hp => h.alloc1 R hp (e3.append q3)⟩)
    · cases hz
  · cases hz
noncomputable def BinD (X : Cx) (op : Operator) (gg : D → D → Option DV) : Prop := ∃ r, OpR X (binaryOp op) r ∧ DR X.K r gg
theorem bin_add : BinD X .Add gAdd := ⟨_, op_add.or (op_add_str.or op_catS), dr_add⟩
theorem bin_sub : BinD X .Sub gSub := ⟨_, op_sub, by
  intro E σ H δ Ω x y d1 d2 z Q R r1 r2 hz h
  unfold gSub at hz
  split at hz
  · cases hz; exact ⟨_, _, r1, r2, h.now R rfl⟩
  · cases hz⟩
theorem bin_div : BinD X .FloorDiv gDiv := ⟨_, op_fdiv, by
  intro E σ H δ Ω x y d1 d2 z Q R r1 r2 hz h
  unfold gDiv at hz
  split at hz
  · split at hz
    · rename_i hc
      cases hz
      unfold cdiv at hc
      exact ⟨_, _, r1, r2, (by simpa using hc : _ ∧ _), h.now R rfl⟩
    · cases hz
  · cases hz⟩
theorem bin_mod : BinD X .Mod gMod := ⟨_, op_mod, by
  intro E σ H δ Ω x y d1 d2 z Q R r1 r2 hz h
  unfold gMod at hz
  split at hz
  · split at hz
    · rename_i hc
      cases hz
      exact ⟨_, _, r1, r2, by simpa using hc, h.now R rfl⟩
    · cases hz
  · cases hz⟩
theorem ped_bin {op : Operator} {gg : D → D → Option DV} (ho : BinD X op gg) (ha : PED X E a f) (hb : PED X E b g) : PED X E (.BinOp a op b pos) (fBin f g gg) := by
  obtain ⟨r, h1, h2⟩ := ho
  obtain ⟨ta, p1, d1⟩ := ha
  obtain ⟨tb, p2, d2⟩ := hb
  exact ⟨_, pe_op h1 p1 p2, de_bin h2 d1 d2⟩
noncomputable def gCmp (p : Int → Int → Bool) : D → D → Option DV
  | .int i, .int j => some (.val (.bl (p i j)))
  | _, _ => none
theorem dr_cmp {K : PySem.W.Frag} {p : Int → Int → Bool} : DR K (rI0 fun i j => .bl (p i j)) (gCmp p) := by
  intro E σ H δ Ω x y d1 d2 z Q R r1 r2 hz h
  unfold gCmp at hz
  split at hz
  · cases hz; exact ⟨_, _, r1, r2, h.now R rfl⟩
  · cases hz
noncomputable def lt (i j : Int) : Bool := decide (i < j)
noncomputable def gt (i j : Int) : Bool := decide (j < i)
noncomputable def ge (i j : Int) : Bool := decide (j ≤ i)
noncomputable def CmpD (X : Cx) (op : CmpOp) (gg : D → D → Option DV) : Prop := ∃ r, OpR X (compareOp op) r ∧ DR X.K r gg
theorem cmp_lt : CmpD X .Lt (gCmp lt) := ⟨_, op_lt, dr_cmp (p := lt)⟩
theorem cmp_gt : CmpD X .Gt (gCmp gt) := ⟨_, op_gt, dr_cmp (p := gt)⟩
theorem cmp_ge : CmpD X .GtE (gCmp ge) := ⟨_, op_ge, dr_cmp (p := ge)⟩
theorem ptd_cmp {op : CmpOp} {gg : D → D → Option DV} (ho : CmpD X op gg) (ha : PED X E a f) (hb : PED X E b g) (hm : behindInMarks op b = false) : PTD X E (.Compare a [op] [b] pos) (fTest (fBin f g gg)) := by
  obtain ⟨r, h1, h2⟩ := ho
  obtain ⟨ta, p1, d1⟩ := ha; obtain ⟨tb, p2, d2⟩ := hb
  exact ⟨_, pt_cmpR h1 p1 p2 hm, dt_test (de_bin h2 d1 d2)⟩
theorem pwd_and1 {fa : DM Bool} (ha : PTD X E a fa) : PWD X E (.BoolOp .And [a] pos) fa := by
  obtain ⟨t, p, d⟩ := ha; exact ⟨_, pw_and1 p, d⟩
theorem pwd_or1 {fa : DM Bool} (ha : PTD X E a fa) : PWD X E (.BoolOp .Or [a] pos) fa := by
  obtain ⟨t, p, d⟩ := ha; exact ⟨_, pw_or1 p, d⟩
theorem pwd_and {fa fb : DM Bool} {rest : List Expr} (ha : PTD X E a fa) (hb : PWD X E (.BoolOp .And (b :: rest) pos) fb) : PWD X E (.BoolOp .And (a :: b :: rest) pos) (fAndT fa fb) := by
  obtain ⟨t, p, d⟩ := ha; obtain ⟨u, q, e⟩ := hb; exact ⟨_, pw_and p q, dt_and d e⟩
theorem pwd_or {fa fb : DM Bool} {rest : List Expr} (ha : PTD X E a fa) (hb : PWD X E (.BoolOp .Or (b :: rest) pos) fb) : PWD X E (.BoolOp .Or (a :: b :: rest) pos) (fOrT fa fb) := by
  obtain ⟨t, p, d⟩ := ha; obtain ⟨u, q, e⟩ := hb; exact ⟨_, pw_or p q, dt_or d e⟩
theorem ptd_bool {fa : DM Bool} (h : PWD X E a fa) : PTD X E a fa := by
  obtain ⟨t, p, d⟩ := h; exact ⟨_, p.pt, d⟩
theorem ptd_not {fa : DM Bool} (ha : PTD X E a fa) : PTD X E (.UnaryOp .Not a pos) (fNotT fa) := by
  obtain ⟨t, p, d⟩ := ha; exact ⟨_, pt_not p, dt_not d⟩
theorem ped_one {op} (ha : PED X E a f) : PED X E (.BoolOp op [a] pos) f := by
  obtain ⟨t, p, d⟩ := ha; exact ⟨_, pe_one p, d⟩
theorem ped_and {rest : List Expr} (ha : PED X E a f) (hb : PED X E (.BoolOp .And (b :: rest) pos) g) : PED X E (.BoolOp .And (a :: b :: rest) pos) (fAndV f g) := by
  obtain ⟨t, p, d⟩ := ha; obtain ⟨u, q, e⟩ := hb; exact ⟨_, pe_and p q, de_and d e⟩
theorem ped_not (ha : PED X E a f) : PED X E (.UnaryOp .Not a pos) (fNotV f) := by
  obtain ⟨t, p, d⟩ := ha; exact ⟨_, pe_not p, de_not d⟩
theorem ptd_val (ha : PED X E a f) (he : ∀ whole, isTrue a X.env whole = (do let v ← whole; standAt a.pos; holding [v] (truthy v)) := by intro _; rfl) : PTD X E a (fTest f) := by
  obtain ⟨ta, p1, d1⟩ := ha
  exact ⟨_, pt_val p1 he, dt_tB d1⟩
noncomputable def gIx : D → D → Option DV
  | .lst ds, .int i => (atI ds i).map .val
  | .tup ds, .int i => (atI ds i).map .val
  | .str z, .int i => if z.length ≤ sizeLine then (atI z.cps.toList i).map fun c => .val (.str ⟨#[c]⟩) else none
  | .scr ns, .int i => (atI ns i).map fun n => .val (.int n)
  | _, _ => none
theorem atI_reps {K : PySem.W.Frag} {H : Hp} {Ω : Om} {ds : List D} {vs : List V} {i : Int} {d : D} (r : Reps K H Ω ds vs) (h : atI ds i = some d) : ∃ v, atI vs i = some v ∧ Rep K H Ω d v := by
  unfold atI at h ⊢
  rw [← r.length]
  cases e : ixN ds.length i with
  | none => rw [e] at h; cases h
  | some j => rw [e] at h; exact r.get h
theorem ped_ix (ha : PED X E a f) (hb : PED X E b g) (hs : PlainIx b := by intro _ _; rfl) : PED X E (.Subscript a b pos) (fBin f g gIx) := by
  obtain ⟨ta, p1, d1⟩ := ha
  obtain ⟨tb, p2, d2⟩ := hb
  refine ⟨_, pe_ix ix_seq p1 p2 hs, de_bin ?_ d1 d2⟩
  intro E σ H δ Ω x y d1 d2 z Q R r1 r2 hz h
  unfold gIx at hz
  split at hz
  · obtain ⟨d, e, rfl⟩ := Option.map_eq_some_iff.mp hz
    obtain ⟨p, vs, e1, e2, e3⟩ := rB_lst r1
    obtain ⟨v, q, rv⟩ := atI_reps e3 e
    exact .inl ⟨p, vs, _, v, e1, r2, .inl e2, q, h.now R rv⟩
  · obtain ⟨d, e, rfl⟩ := Option.map_eq_some_iff.mp hz
    obtain ⟨p, vs, e1, e2, e3⟩ := rB_tup r1
    obtain ⟨v, q, rv⟩ := atI_reps e3 e
    exact .inr (.inl ⟨p, vs, _, v, e1, r2, e2, q, h.now R rv⟩)
  · split at hz
    · rename_i hl
      obtain ⟨c, e, rfl⟩ := Option.map_eq_some_iff.mp hz
      exact .inr (.inr ⟨_, _, c, r1, r2, hl, e, h.now R rfl⟩)
    · cases hz
  · obtain ⟨n, e, rfl⟩ := Option.map_eq_some_iff.mp hz
    obtain ⟨p, e1, e2⟩ := (show ∃ a, _ from r1)
    refine .inl ⟨p, _, _, .int n, e1, r2, e2.sq, ?_, h.now R rfl⟩
    unfold atI at e ⊢
    rw [List.length_map]
    obtain ⟨j, h1, h2⟩ := Option.bind_eq_some_iff.mp e
    rw [h1]
    show (List.map V.int _)[j]? = _
    rw [List.getElem?_map, h2]
    rfl
  · cases hz
theorem pad_nil : PAD X E [] fNil := ⟨_, pa_nil, da_nil⟩
theorem pad_cons {es : List Expr} {r : DM (List DV)} (ha : PED X E e f) (hr : PAD X E es r) (hs : starEach (e :: es) X.env = (false, eval e X.env) :: starEach es X.env := by rfl) : PAD X E (e :: es) (fCons f r) := by
  obtain ⟨t, p, d⟩ := ha; obtain ⟨u, q, c⟩ := hr; exact ⟨_, pa_cons p q hs, da_cons d c⟩
theorem ped_tup {es : List Expr} {r : DM (List DV)} {k : Nat} (h : PAD X E es r) : PED X E (.Tuple es k pos) (fTup r) := by
  obtain ⟨t, p, d⟩ := h; exact ⟨_, pe_tup p, de_tup d⟩
theorem ped_lst {es : List Expr} {r : DM (List DV)} (h : PAD X E es r) : PED X E (.List es pos) (fLst r) := by
  obtain ⟨t, p, d⟩ := h; exact ⟨_, pe_lst p, de_lst d⟩
structure DefP (P : Program) (w : World) (K : PySem.W.Frag) (mg : Str → Option Value) (base : Heap) (k : Nat) (x : Str) (n : Nat) (M : List D → Ro) : Prop where
  ex : ∃ (f : Addr) (fd : FuncData) (ps : List Str), FnOk P w K mg base CX0 k f fd ps (spP K (fun _ => .none) n M) ∧ mg x = some (.ref f) ∧ PySem.W.keepIn K (.ref f) = true ∧ Binds K fd ps []
theorem ped_call {k n : Nat} {x : Str} {M : List D → Ro} {p : Pos} {es : List Expr} {r : DM (List DV)} (F : DefP X.prog X.w X.K X.mg X.base k x n M) (hr : Room k X.A) (ha : PAD X EN (e :: es) r) (hg : Gl X x := by rfl)
    (hdb : (x == ("__debug__" : Str)) = false := by decide) (he : starEach (e :: es) X.env = (false, eval e X.env) :: starEach es X.env := by rfl) (hpl : (backTo pos (starEach es X.env)).any (·.1) = false := by rfl) :
    PED X EN (.Call (.Name x p) (e :: es) [] pos) (fCall n r M) := by
  obtain ⟨fa, fd, ps, F, hm, kp, b⟩ := F.ex
  obtain ⟨t, q, d⟩ := ha
  exact ⟨_, pe_call F hr hg hm kp b .nil pass0 q hdb he hpl, de_call (fun _ _ z => z) d⟩
noncomputable def CallD (X : Cx) (fv : Value) (gg : List D → Option DV) : Prop := ∃ r, CallR X fv r ∧ DC X.K r gg
theorem ped_cb {id : String} {gg : List D → Option DV} {x : Str} {p : Pos} {es : List Expr} {r : DM (List DV)} (hc : CallD X (.builtin id) gg) (hm : X.mg x = none) (hv : bootBuiltins x = some (.builtin id)) (ha : PAD X E (e :: es) r) (hg : Gl X x := by rfl)
    (hn : x ≠ "__name__" := by decide) (hdb : (x == ("__debug__" : Str)) = false := by decide) (he : starEach (e :: es) X.env = (false, eval e X.env) :: starEach es X.env := by rfl) (hpl : (backTo pos (starEach es X.env)).any (·.1) = false := by rfl) :
    PED X E (.Call (.Name x p) (e :: es) [] pos) (fCB r gg) := by
  obtain ⟨rr, h1, h2⟩ := hc
  obtain ⟨t, q, d⟩ := ha
  exact ⟨_, pe_callB h1 hg hm hv q hn hdb he hpl, de_cb h2 d⟩
theorem ped_cty {T : String} {gg : List D → Option DV} {x : Str} {p : Pos} {es : List Expr} {r : DM (List DV)} (hc : CallD X (.type T) gg) (hm : X.mg x = none) (hv : bootBuiltins x = some (.type T)) (ha : PAD X E (e :: es) r) (hg : Gl X x := by rfl)
    (hn : x ≠ "__name__" := by decide) (hdb : (x == ("__debug__" : Str)) = false := by decide) (he : starEach (e :: es) X.env = (false, eval e X.env) :: starEach es X.env := by rfl) (hpl : (backTo pos (starEach es X.env)).any (·.1) = false := by rfl) :
    PED X E (.Call (.Name x p) (e :: es) [] pos) (fCB r gg) := by
  obtain ⟨rr, h1, h2⟩ := hc
  obtain ⟨t, q, d⟩ := ha
  exact ⟨_, pe_callTy h1 hg hm hv q hn hdb he hpl, de_cb h2 d⟩
theorem rBs_one {K : PySem.W.Frag} {H : Hp} {Ω : Om} {d : D} {vs : List V} (h : RepBs K H Ω [d] vs) : ∃ v, vs = [v] ∧ RepB K H Ω d v := by
  obtain ⟨v, r, e1, e2, e3⟩ := h
  cases (show r = [] from e3)
  exact ⟨v, e1, e2⟩
noncomputable def gLen : List D → Option DV
  | [.lst ds] => some (.val (.int ds.length))
  | [.tup ds] => some (.val (.int ds.length))
  | [.str x] => if x.length ≤ sizeLine then some (.val (.int x.length)) else none
  | [.scr ns] => some (.val (.int ns.length))
  | _ => none
theorem cb_len : CallD X (.builtin "len") gLen := ⟨_, call_len, by
  intro E σ H δ Ω vs ds z Q R r hz h
  unfold gLen at hz
  split at hz
  · cases hz
    obtain ⟨v, e, rv⟩ := rBs_one r
    obtain ⟨a, ws, e1, e2, e3⟩ := rB_lst rv
    subst e1
    exact ⟨.ref a, ws.length, e, .inl ⟨ws, .inl e2, rfl⟩, by rw [← e3.length]; exact h.now R rfl⟩
  · cases hz
    obtain ⟨v, e, rv⟩ := rBs_one r
    obtain ⟨a, ws, e1, e2, e3⟩ := rB_tup rv
    subst e1
    exact ⟨.ref a, ws.length, e, .inr ⟨ws, e2, rfl⟩, by rw [← e3.length]; exact h.now R rfl⟩
  · split at hz
    · rename_i x hl
      cases hz
      obtain ⟨v, e, rv⟩ := rBs_one r
      cases (show v = .str x from rv)
      exact ⟨.str x, x.length, e, ⟨hl, rfl⟩, h.now R rfl⟩
    · cases hz
  · rename_i ns
    cases hz
    obtain ⟨v, e, rv⟩ := rBs_one r
    obtain ⟨p, e1, e2⟩ := (show ∃ a, _ from rv)
    subst e1
    exact ⟨.ref p, ns.length, e, .inl ⟨_, e2.sq, by rw [List.length_map]⟩, h.now R rfl⟩
  · cases hz⟩
noncomputable def gStr : List D → Option DV
  | [.int i] => if i.natAbs.log2 < 1920 then some (.val (.str (Str.ofString (toString i)))) else none
  | [.str x] => some (.val (.str x))
  | _ => none
noncomputable def gList : List D → Option DV
  | [.lst ds] => some (.own ds)
  | [.tup ds] => some (.own ds)
  | _ => none
theorem cb_list : CallD X (.type "list") gList := ⟨_, call_list_of, by
  intro E σ H δ Ω vs ds z Q R r hz h
  unfold gList at hz
  split at hz
  · cases hz
    obtain ⟨v, e, rv⟩ := rBs_one r
    obtain ⟨a, ws, e1, e2, e3⟩ := rB_lst rv
    subst e1
    exact ⟨a, ws, e, .inl (.inl e2), fun p hp => h.alloc1 R hp e3⟩
  · cases hz
    obtain ⟨v, e, rv⟩ := rBs_one r
    obtain ⟨a, ws, e1, e2, e3⟩ := rB_tup rv
    subst e1
    exact ⟨a, ws, e, .inr e2, fun p hp => h.alloc1 R hp e3⟩
  · cases hz⟩
noncomputable def tyD : D → String
  | .non => "NoneType" | .bl _ => "bool" | .int _ => "int" | .str _ => "str" | .tup _ => "tuple" | .lst _ => "list" | .scr _ => "list" | .exc _ => "" | .key _ _ => "" | .obj _ _ _ _ => ""
noncomputable def isTs : List String := ["int", "bool", "str", "list", "tuple"]
noncomputable def isExc : D → Bool
  | .exc _ => true
  | .key _ _ => true
  | .obj _ _ _ _ => true
  | _ => false
noncomputable def isD (T : String) (d : D) : Option Bool := if isExc d then none else if isTs.contains T then some (tyD d == T || (tyD d == "bool" && T == "int")) else none
end
end DL
namespace DL
open PySem PySem.Spec PyProof.Rows L2
section
variable {X : Cx} {E : Str → Hp → Prop} {pos : Pos} {a b c e : Expr} {f g : DM DV} {mp : List Nat}
noncomputable def kitF (A B : String) : Option Bool := if (Value.type A == Value.type B) = true then some true else if PySem.W.kitMeta B = true then (fastBuiltinMro A).map (·.contains (Value.type B)) else none
theorem kit_all : (isTs.all fun T => ["NoneType", "bool", "int", "str", "tuple", "list"].all fun A => kitF A T == some (A == T || (A == "bool" && T == "int"))) = true := by decide +kernel
theorem kit_of {K : PySem.W.Frag} {T : String} {d : D} {bb : Bool} (h : isD T d = some bb) : PySem.W.kitOne K (.type (tyD d)) (.type T) = some bb := by
  unfold isD at h
  split at h
  · cases h
  rename_i hE
  split at h
  · rename_i hT
    cases h
    have h1 := List.all_eq_true.mp kit_all T (List.contains_iff_mem.mp hT)
    have h2 := List.all_eq_true.mp h1 (tyD d) (by cases d <;> first | exact absurd rfl hE | simp [tyD])
    exact (beq_iff_eq.mp h2 : kitF (tyD d) T = _)
  · cases h
theorem tyD_of {K : PySem.W.Frag} {H : Hp} {Ω : Om} {d : D} {x : V} {T : String} {bb : Bool} (h : RepB K H Ω d x) (hd : isD T d = some bb) : TyD K H x (tyD d) := by
  cases d with
  | non => cases (show x = .non from h); exact .non
  | bl y => cases (show x = .bl y from h); exact .bl y
  | int y => cases (show x = .int y from h); exact .int y
  | str y => cases (show x = .str y from h); exact .str y
  | tup ds => obtain ⟨p, vs, e1, e2, e3⟩ := rB_tup h; subst e1; exact .tup e2
  | lst ds => obtain ⟨p, vs, e1, e2, e3⟩ := rB_lst h; subst e1; exact .lst (.inl e2)
  | scr ns => obtain ⟨p, e1, e2⟩ := (show ∃ a, _ from h); subst e1; exact .lst e2.sq
  | exc c => cases hd
  | key r n => cases hd
  | obj _ _ _ _ => cases hd
noncomputable def gIs (T : String) (d : D) : Option DV := (isD T d).map fun bb => .val (.bl bb)
theorem ped_isi {T : String} {x : Str} {p p2 : Pos} (hm : X.mg "isinstance" = none) (hm2 : X.mg x = none) (hv : bootBuiltins x = some (.type T)) (ha : PED X E e f) (hg : Gl X "isinstance" := by rfl) (hg2 : Gl X x := by rfl)
    (hn : x ≠ "__name__" := by decide) (hdb : (x == ("__debug__" : Str)) = false := by decide)
    (hs : starEach [e, .Name x p2] X.env = (false, eval e X.env) :: starEach [.Name x p2] X.env := by rfl) (hs2 : starEach [.Name x p2] X.env = (false, eval (.Name x p2) X.env) :: starEach [] X.env := by rfl)
    (hpl : (backTo pos (starEach [.Name x p2] X.env)).any (·.1) = false := by rfl) :
    PED X E (.Call (.Name "isinstance" p) [e, .Name x p2] [] pos) (fUn f (gIs T)) := by
  obtain ⟨t, q, d⟩ := ha
  refine ⟨_, pe_callB call_isinst hg hm boot_isinstance (pa_cons q (pa_cons (pe_bltn (v := .ty T) hg2 hm2 hv rfl hn hdb) pa_nil hs2) hs) (by decide) (by decide) hs hpl, ?_⟩
  intro σ H δ Ω R Q h
  refine d.use R h fun a1 x δ1 H1 Ω1 _ s1 R1 r1 h1 => ?_
  (try dsimp only at h1)
  cases q1 : res δ1 a1 with
  | none => rw [q1] at h1; exact h1.elim
  | some d1 =>
    rw [q1] at h1
    (try dsimp only at h1)
    cases q3 : isD T d1 with
    | none =>
      unfold gIs at h1
      rw [q3] at h1
      exact h1.elim
    | some bb =>
      unfold gIs at h1
      rw [q3] at h1
      exact ⟨x, T, tyD d1, bb, rfl, tyD_of (r1.res R1 q1) q3, kit_of q3, Wg.now (d := .val (.bl bb)) h1 R1 rfl⟩
noncomputable def fBM (fo : DM DV) (fa : DM (List DV)) (gg : D → List D → Option DV) : DM DV := (fN fo).bd fun o => fun δ0 => match res δ0 o with
  | some (.str _) => (fa.bd fun as => fun δ => match res δ o, resAll δ as with
    | some d, some ds => (match gg d ds with | some r => .ok r δ | none => .un)
    | _, _ => .un) δ0
  | _ => .un
noncomputable def strsOf : List D → Option (List Str)
  | [] => some []
  | .str x :: r => (strsOf r).map fun xs => x :: xs
  | _ :: _ => none
noncomputable def gJoin : D → List D → Option DV
  | .str sep, [.lst ds] => (strsOf ds).bind fun ys => if (ys.map (·.length)).sum + ys.length * sep.length ≤ 16777216 then some (.val (.str (Txt.join sep ys))) else none
  | _, _ => none
section
variable {tg iter elt : Expr} {ifs : List Expr} {sc : Scope} {fi : DM (List D)} {t : D → DSt → Option DSt} {fc : DM Bool} {fe : DM DV} {N : List Str} {sel : List (Option Nat)}
noncomputable def PID (X : Cx) (E : Str → Hp → Prop) (tg iter : Expr) (fi : DM (List D)) : Prop := ∃ wi, PI X tg iter wi ∧ DI X.K E wi fi
noncomputable def PGD (X : Cx) (mp : List Nat) (tg : Expr) (t : D → DSt → Option DSt) : Prop := ∃ g, PG X tg g ∧ DG X.K mp g t
noncomputable def PTsD (X : Cx) (ifs : List Expr) (fc : DM Bool) : Prop := ∃ ts, PTs X ifs ts ∧ DT X.K EN ts fc
theorem pid_list (ha : PED X E a f) : PID X E tg a (fIt f gLstItems) := by
  obtain ⟨t, p, d⟩ := ha; exact ⟨_, pi_list p, di_list d⟩
theorem pid_tup (ha : PED X E a f) : PID X E tg a (fIt f gTupItems) := by
  obtain ⟨t, p, d⟩ := ha; exact ⟨_, pi_tup p, di_tup d⟩
theorem pid_rng1 {r : DM (List DV)} {p : Pos} (hm : X.mg "range" = none) (ha : PAD X E [a] r) (hg : Gl X "range" := by rfl) (hs : starEach [a] X.env = [(false, eval a X.env)] := by rfl) : PID X E tg (.Call (.Name "range" p) [a] [] pos) (fRng1 r) := by
  obtain ⟨t, q, d⟩ := ha; exact ⟨_, pi_range1 hg hm q hs, di_rng1 d⟩
theorem pgd_name {i : Nat} {x : Str} (hN : X.N.Nodup) (hi : X.N[i]? = some x := by rfl) (hx : Loc X.env.scope x := by first | exact Or.inl rfl | exact Or.inr rfl) (hm : i ∉ mp := by decide)
    (hf : X.fn x = true ∨ X.env.scope.names.lookup x = some .local := by first | exact .inl rfl | exact .inr rfl) : PGD X mp (.Name x pos) (sName i) := ⟨_, pg_name hN hi hx hf, dg_name hm⟩
theorem ptsd_nil : PTsD X [] (.ret true) := ⟨_, pts_nil, fun σ H δ Ω R Q h => Wg.nowB h R⟩
theorem ped_lc (B : Blk X N sel sc) (hc : X.calm = true) (hi : PID X E tg iter fi) (hg : ∀ b, PGD (blk X N sc b) [] tg t) (ht : ∀ b, PTsD (blk X N sc b) ifs fc) (he : ∀ b, PED (blk X N sc b) EN elt fe)
    (hs : ∀ x, foldedSetIterable iter X.env x = pure x := by intro _; rfl) : PED X E (.ListComp elt [⟨tg, iter, ifs, 0⟩] sc pos) (fLC fi t fc fe sel) := by
  obtain ⟨wi, p, d⟩ := hi
  refine ⟨_, pe_lc (g := fun v σ H Q => ∀ b, (hg b).choose v σ H Q) (ts := fun σ H Q => ∀ b, (ht b).choose σ H Q) (te := fun σ H Q => ∀ b, (he b).choose σ H Q) B hc p
    (fun b pins s σ H v u Q I r h => (hg b).choose_spec.1 pins s σ H v u Q I r (h b)) (fun b pins s σ H Q I h => (ht b).choose_spec.1 pins s σ H Q I (h b)) (fun b pins s σ H Q I h => (he b).choose_spec.1 pins s σ H Q I (h b)) hs,
    de_lc d (fun σ H δ Ω dd x δ' R r e Q h b => (hg b).choose_spec.2 σ H δ Ω dd x δ' R r e Q h) (fun σ H δ Ω R Q h b => (ht b).choose_spec.2 σ H δ Ω R Q h) (fun σ H δ Ω R Q h b => (he b).choose_spec.2 σ H δ Ω R Q h)⟩
end
theorem psd_nil : PSsD X E mp [] fNext := ⟨_, pss_nil, ds_next⟩
theorem psd_cons {st : Stmt} {rest : List Stmt} {f1 f2 : DM Fl} (h1 : PSD X E mp st f1) (h2 : PSsD X E mp rest f2) : PSsD X E mp (st :: rest) (fSeq f1 f2) := by
  obtain ⟨t, p, d⟩ := h1; obtain ⟨u, q, r⟩ := h2; exact ⟨_, pss_cons p q, ds_seq d r⟩
theorem psd_one {st : Stmt} {f1 : DM Fl} (h1 : PSD X E mp st f1) : PSsD X E mp [st] f1 := by
  obtain ⟨t, p, d⟩ := h1; exact ⟨_, pss_one p, d⟩
theorem psd_ret (h : PED X E e f) : PSD X E mp (.Return (some e) pos) (fRet f) := by
  obtain ⟨t, p, d⟩ := h; exact ⟨_, ps_ret p, ds_ret d⟩
theorem psd_expr (h : PED X E e f) (hs : swapsWith e none pos.line X.env = pure false := by rfl) : PSD X E mp (.Expr e pos) (fDrop f) := by
  obtain ⟨t, p, d⟩ := h; exact ⟨_, ps_expr p hs, ds_drop d⟩
theorem psd_if {fc : DM Bool} {s1 s2 : List Stmt} {f1 f2 : DM Fl} (hc : PTD X E c fc) (h1 : PSsD X E mp s1 f1) (h2 : PSsD X E mp s2 f2) : PSD X E mp (.If c s1 s2 pos) (fIf fc f1 f2) := by
  obtain ⟨t, p, d⟩ := hc; obtain ⟨t1, p1, d1⟩ := h1; obtain ⟨t2, p2, d2⟩ := h2
  exact ⟨_, ps_if p p1 p2, ds_if d d1 d2⟩
theorem psd_set (i : Nat) {x : Str} {pos' : Pos} (hN : X.N.Nodup) (he : PED X E e f) (hi : X.N[i]? = some x := by rfl) (hx : Loc X.env.scope x := by first | exact Or.inl rfl | exact Or.inr rfl) (hm : i ∉ mp := by decide)
    (hs : swapsWith e (some (.Name x pos')) pos.line X.env = pure false := by rfl) (hf : X.fn x = true ∨ X.env.scope.names.lookup x = some .local := by first | exact .inl rfl | exact .inr rfl) : PSD X E mp (.Assign [.Name x pos'] e pos) (fSet i f) := by
  obtain ⟨t, p, d⟩ := he; exact ⟨_, ps_set hN hi hx p hs hf, ds_set hm d⟩
theorem psd_setO (i : Nat) {x : Str} {pos' : Pos} (hN : X.N.Nodup) (he : PED X E e f) (hi : X.N[i]? = some x := by rfl) (hx : Loc X.env.scope x := by first | exact Or.inl rfl | exact Or.inr rfl) (hm : i ∉ mp := by decide)
    (hs : swapsWith e (some (.Name x pos')) pos.line X.env = pure false := by rfl) (hf : X.fn x = true ∨ X.env.scope.names.lookup x = some .local := by first | exact .inl rfl | exact .inr rfl) : PSD X E mp (.Assign [.Name x pos'] e pos) (fSetO i f) := by
  obtain ⟨t, p, d⟩ := he; exact ⟨_, ps_set hN hi hx p hs hf, ds_setO hm d⟩
theorem psd_for {tg iter : Expr} {body : List Stmt} {fi : DM (List D)} {t : D → DSt → Option DSt} {fb : DM Fl} (hp : PassesOwn (model X.prog X.w) X.A X.env X.xe) (hc : X.calm = true) (hi : PID X E tg iter fi) (hg : PGD X mp tg t) (hb : PSsD X E mp body fb)
    (hs : ∀ x, foldedSetIterable iter X.env x = pure x := by intro _; rfl) : PSD X E mp (.For tg iter body [] pos) (fFor fi t fb) := by
  obtain ⟨wi, p1, d1⟩ := hi; obtain ⟨g, p2, d2⟩ := hg; obtain ⟨ts, p3, d3⟩ := hb
  exact ⟨_, ps_for hp hc p1 p2 p3 hs, ds_for d1 d2 d3⟩
noncomputable def fApp (i : Nat) (f : DM DV) : DM Fl := (fN f).bd fun a δ => match a, δ[i]? with
  | .val d, some (.ow ds) => if ds.length < sizeLine then .ok .nx (δ.set i (.ow (ds ++ [d]))) else .un
  | _, _ => .un
noncomputable def isOw (i : Nat) (δ : DSt) : Bool := match δ[i]? with | some (.ow _) => true | _ => false
noncomputable def fApp' (i : Nat) (f : DM DV) : DM Fl := fun δ => if isOw i δ then fApp i f δ else .un
section
variable {K : PySem.W.Frag} {H : Hp} {Ω : Om} {σ : St} {δ : DSt}
theorem RepS.putOw {i : Nat} {p : Addr} {xs : List V} {es : List D} (R : RepS K H Ω σ δ) (hσ : σ[i]? = some (some (.ref p))) (hl : ∃ vs, H p = some vs ∧ fixO vs = false) (hp : Ω p = some (i + 2)) (r : Reps K H Ω es xs) : RepS K (upd H p (.lst xs)) Ω σ (δ.set i (.ow es)) := by
  have hp' : Ω p ≠ none := by rw [hp]; exact Option.some_ne_none _
  refine ⟨by rw [List.length_set]; exact R.len, fun j s h => ?_, fun a k q => ?_⟩
  · by_cases hj : i = j
    · subst hj
      have hl' : i < δ.length := by
        have := (List.getElem?_eq_some_iff.mp h).1
        rwa [List.length_set] at this
      rw [List.getElem?_set_self hl'] at h
      cases h
      exact ⟨p, xs, by rw [hσ]; rfl, upd_same, hp, r.put hl hp'⟩
    · rw [List.getElem?_set_ne hj] at h
      refine (R.sl j s h).mv (fun _ _ z => z.put hl hp') (fun _ _ z => z.put hl hp') fun a ws e3 e2 => ?_
      have ha : a ≠ p := by
        rintro rfl
        rw [hp] at e3
        exact hj (by have := Option.some.inj e3; omega)
      exact ⟨by rw [upd_ne ha]; exact e2, e3⟩
  · by_cases ha : a = p
    · subst ha; exact ⟨_, upd_same, rfl⟩
    · obtain ⟨ws, e, f⟩ := R.trk a k q
      exact ⟨ws, by rw [upd_ne ha]; exact e, f⟩
theorem Ext.putOw {p : Addr} {k : Nat} {o : HO} (hl : ∃ vs, H p = some vs ∧ fixO vs = false) (hp : Ω p = some (k + 1)) : Ext H Ω (upd H p o) Ω where
  keep := fun b o' q h => by
    have hb : b ≠ p := by
      rintro rfl
      obtain ⟨vs, e, f⟩ := hl
      rw [e] at q
      cases q
      rcases h with h | h | h
      · rw [f] at h; cases h
      · rw [hp] at h; cases h
      · rw [hp] at h; cases h
    rw [upd_ne hb]
    exact q
  new := fun _ q _ => q
  fr := fun _ => Iff.rfl
  live := fun b q => by
    unfold upd at q
    split at q
    · cases q
    · exact q
end
theorem psd_app (i : Nat) {x : Str} {p apos cpos : Pos} (he : PED X E e f) (hN : X.N[i]? = some x := by rfl) (hv : Vis X.env.scope x := by first | exact Or.inl rfl | exact Or.inr (Or.inl rfl) | exact Or.inr (Or.inr rfl))
    (hd : (x == ("__debug__" : Str)) = false := by decide) (hcd : (x == ("__classdict__" : Str)) = false := by decide)
    (hbase : attributeBase (.Name x p) "append" X.env (eval (.Name x p) X.env) = eval (.Name x p) X.env := by rfl)
    (hfew : ((backTo cpos (starEach [e] X.env)).all (fun x => !x.1) && (backToKw cpos (keywordEach [] X.env)).all (fun x => x.1.isSome)
      && decide (([e] : List Expr).length + ([] : List Keyword).length + (if ([] : List Keyword).isEmpty then 0 else 1) < 30)) = true := by rfl)
    (hline : (apos.endLine == cpos.line) = true := by rfl) (hs : starEach [e] X.env = (false, eval e X.env) :: starEach [] X.env := by rfl)
    (hsw : swapsWith (.Call (.Attribute (.Name x p) "append" apos) [e] [] cpos) none pos.line X.env = pure false := by rfl) :
    PSD X E mp (.Expr (.Call (.Attribute (.Name x p) "append" apos) [e] [] cpos) pos) (fApp' i f) := by
  obtain ⟨t, q, d⟩ := he
  refine ⟨_, ps_expr (pe_bm PySem.F.plainAttrs_list PySem.F.slot_list_append PySem.F.type_list_append mt_append (pv i hN hv hd hcd) (pa_cons q pa_nil hs) hbase hfew hline hs rfl) hsw, ?_⟩
  intro σ H δ Ω R B h
  unfold fApp' at h
  split at h
  · rename_i ho
    unfold isOw at ho
    split at ho
    · rename_i ds hds
      obtain ⟨a, vs, e1, e2, e3, e4⟩ := R.sl i _ hds
      refine ⟨.ref a, join_some e1, .inl ⟨rfl, vs, SqL.of e2⟩, d.use R h fun a1 y δ1 H1 Ω1 ex s1 R1 r1 h1 => ?_⟩
      (try dsimp only at h1)
      split at h1
      · rename_i dd es hds1
        split at h1
        · rename_i hz
          obtain ⟨a', ws, q1, q2, q3, q4⟩ := R1.sl i _ hds1
          have ea : a' = a := by
            have z := (join_some q1).symm.trans (join_some e1)
            injection z with z
            injection z with z
            injection z
          subst ea
          refine ⟨a', ws, y, rfl, rfl, q2, by rw [← q4.length]; exact hz, ?_⟩
          exact h1 _ Ω1 (.putOw (k := i + 1) ⟨_, q2, rfl⟩ q3) σ (R1.putOw (join_some q1) ⟨_, q2, rfl⟩ q3 (q4.append (.cons r1 .nil))) fun _ _ => rfl
        · exact h1.elim
      · exact h1.elim
    · cases ho
  · exact h.elim
end
end DL
namespace DL
open PySem PySem.Spec PyProof.Rows L2
noncomputable def eqsF (f : D → D → Option Bool) : List D → List D → Option Bool
  | [], [] => some true
  | x :: xs, y :: ys => match f x y, eqsF f xs ys with | some a, some b => some (a && b) | _, _ => none
  | [], _ :: _ => some false
  | _ :: _, [] => some false
noncomputable def oth : D → Option Bool
  | .scr _ => none
  | .exc _ => none
  | .key _ _ => none
  | .obj _ _ _ _ => none
  | _ => some false
noncomputable def deqB (g : List D → List D → Option Bool) : D → D → Option Bool
  | .non, d => (match d with | .non => some true | d => oth d)
  | .int i, d => (match d with | .int j => some (i == j) | .bl _ => none | d => oth d)
  | .str x, d => (match d with | .str y => some (x == y) | d => oth d)
  | .bl x, d => (match d with | .bl y => some (x == y) | .int _ => none | d => oth d)
  | .tup xs, d => (match d with | .tup ys => g xs ys | d => oth d)
  | .lst xs, d => (match d with | .lst ys => g xs ys | d => oth d)
  | _, _ => none
noncomputable def eqG : Nat → List D → List D → Option Bool
  | 0 => fun _ _ => none
  | n + 1 => eqsF (deqB (eqG n))
noncomputable def deqF (n : Nat) (d1 d2 : D) : Option Bool := deqB (eqG n) d1 d2
theorem oth1 {g : List D → List D → Option Bool} {d1 d2 : D} (h : oth d1 = none) : deqB g d1 d2 = none := by cases d1 <;> first | rfl | cases h
theorem oth2 {g : List D → List D → Option Bool} {d1 d2 : D} (h : oth d2 = none) : deqB g d1 d2 = none := by cases d1 <;> cases d2 <;> first | rfl | cases h
theorem eqsF_len {f : D → D → Option Bool} : ∀ {xs ys : List D} {b : Bool}, eqsF f xs ys = some b → xs.length ≠ ys.length → b = false
  | [], [], _, _, hl => absurd rfl hl
  | [], _ :: _, _, e, _ => by cases e; rfl
  | _ :: _, [], _, e, _ => by cases e; rfl
  | x :: xs, y :: ys, b, e, hl => by
    unfold eqsF at e
    split at e
    · rename_i p q h1 h2
      cases e
      rw [eqsF_len h2 (fun z => hl (by rw [List.length_cons, List.length_cons, z])), Bool.and_false]
    · cases e
theorem eqsF_all {f : D → D → Option Bool} : ∀ {xs ys : List D} {b : Bool}, eqsF f xs ys = some b → xs.length = ys.length →
    ∃ e : Nat → Bool, (∀ i x y, xs[i]? = some x → ys[i]? = some y → f x y = some (e i)) ∧ b = (List.range xs.length).all e
  | [], [], _, h, _ => ⟨fun _ => true, fun _ _ _ z => by simp at z, by cases h; rfl⟩
  | [], _ :: _, _, _, hl => by cases hl
  | _ :: _, [], _, _, hl => by cases hl
  | x :: xs, y :: ys, b, h, hl => by
    unfold eqsF at h
    split at h
    · rename_i p q h1 h2
      cases h
      obtain ⟨e, he, hb⟩ := eqsF_all h2 (Nat.succ.inj hl)
      refine ⟨fun i => match i with | 0 => p | i + 1 => e i, fun i x' y' z1 z2 => ?_, ?_⟩
      · cases i with
        | zero =>
          have a1 : x = x' := by simpa using z1
          have a2 : y = y' := by simpa using z2
          subst a1 a2
          exact h1
        | succ i => exact he i x' y' (by simpa using z1) (by simpa using z2)
      · rw [hb, List.length_cons, List.range_succ_eq_map, List.all_cons, List.all_map]
        rfl
    · cases h
theorem eqsF_min {f : D → D → Option Bool} : ∀ {xs ys : List D} {b : Bool}, eqsF f xs ys = some b →
    ∃ e : Nat → Bool, (∀ i x y, xs[i]? = some x → ys[i]? = some y → f x y = some (e i)) ∧ b = ((List.range (min xs.length ys.length)).all e && xs.length == ys.length)
  | [], [], _, h => ⟨fun _ => true, fun _ _ _ z => by simp at z, by cases h; rfl⟩
  | [], _ :: _, _, h => ⟨fun _ => true, fun _ _ _ z => by simp at z, by cases h; rfl⟩
  | _ :: _, [], _, h => ⟨fun _ => true, fun _ _ _ _ z => by simp at z, by cases h; rfl⟩
  | x :: xs, y :: ys, b, h => by
    unfold eqsF at h
    split at h
    · rename_i p q h1 h2
      cases h
      obtain ⟨e, he, hb⟩ := eqsF_min h2
      refine ⟨fun i => match i with | 0 => p | i + 1 => e i, fun i x' y' z1 z2 => ?_, ?_⟩
      · cases i with
        | zero =>
          have a1 : x = x' := by simpa using z1
          have a2 : y = y' := by simpa using z2
          subst a1 a2
          exact h1
        | succ i => exact he i x' y' (by simpa using z1) (by simpa using z2)
      · rw [hb, List.length_cons, List.length_cons, Nat.succ_min_succ, List.range_succ_eq_map, List.all_cons, List.all_map, Bool.and_assoc]
        congr 1
        congr 1
        by_cases hq : xs.length = ys.length
        · rw [hq]; simp
        · rw [beq_eq_false_iff_ne.mpr hq, beq_eq_false_iff_ne.mpr (fun z => hq (Nat.succ.inj z))]
    · cases h
section
variable {K : PySem.W.Frag} {H : Hp} {Ω : Om} {s : Shared}
structure Heaps (K : PySem.W.Frag) (H : Hp) (s : Shared) : Prop where
  l : ∀ a xs, Rd H a (.lst xs) → ∃ its : List Value, Vals xs its ∧ s.heap.IsList a its.toArray
  t : ∀ a xs, SqT K H a xs → ∃ its : List Value, Vals xs its ∧ s.heap.IsTuple a its.toArray
theorem Heaps.of {X : Cx} {pins : List (Addr × Obj)} {σ : St} (I : Inv X pins σ H s) : Heaps X.K H s :=
  ⟨fun a xs h => by obtain ⟨its, r, p, _⟩ := I.list (.inl h); exact ⟨its, r, p.isList⟩, fun a xs h => by obtain ⟨its, r, p, _⟩ := I.tuple h; exact ⟨its, r, p⟩⟩
theorem isList_inj {h : Heap} {a : Addr} {xs ys : List Value} (p : h.IsList a xs.toArray) (q : h.IsList a ys.toArray) : xs = ys := by
  obtain ⟨o, e, c, n, d⟩ := p
  obtain ⟨o', e', c', n', d'⟩ := q
  rw [e] at e'
  cases e'
  rw [d] at d'
  injection d' with z
  simpa using z
theorem isTuple_inj {h : Heap} {a : Addr} {xs ys : List Value} (p : h.IsTuple a xs.toArray) (q : h.IsTuple a ys.toArray) : xs = ys := by
  obtain ⟨o, e, c, n, d⟩ := p
  obtain ⟨o', e', c', n', d'⟩ := q
  rw [e] at e'
  cases e'
  rw [d] at d'
  injection d' with z
  simpa using z
theorem list_not_tuple {h : Heap} {a : Addr} {xs ys : Array Value} (p : h.IsList a xs) (q : h.IsTuple a ys) : False := by
  obtain ⟨o, e, c, n, d⟩ := p
  obtain ⟨o', e', c', n', d'⟩ := q
  rw [e] at e'
  cases e'
  rw [c] at c'
  exact absurd c' (by decide)
inductive AsX (K : PySem.W.Frag) (H : Hp) (Ω : Om) : D → V → Prop
  | non : AsX K H Ω .non .non
  | bl (b : Bool) : AsX K H Ω (.bl b) (.bl b)
  | int (i : Int) : AsX K H Ω (.int i) (.int i)
  | str (z : Str) : AsX K H Ω (.str z) (.str z)
  | tup (ds : List D) (p : Addr) (vs : List V) (q : SqT K H p vs) (r : Reps K H Ω ds vs) : AsX K H Ω (.tup ds) (.ref p)
  | lst (ds : List D) (p : Addr) (vs : List V) (q : Rd H p (.lst vs)) (r : Reps K H Ω ds vs) : AsX K H Ω (.lst ds) (.ref p)
  | oth (d : D) (v : V) (h : DL.oth d = none) : AsX K H Ω d v
theorem asX {d : D} {x : V} (h : RepB K H Ω d x) : AsX K H Ω d x := by
  cases d with
  | non => cases (show x = .non from h); exact .non
  | bl b => cases (show x = .bl b from h); exact .bl b
  | int i => cases (show x = .int i from h); exact .int i
  | str z => cases (show x = .str z from h); exact .str z
  | tup ds => obtain ⟨p, vs, e, q, r⟩ := rB_tup h; subst e; exact .tup ds p vs q r
  | lst ds => obtain ⟨p, vs, e, q, r⟩ := rB_lst h; subst e; exact .lst ds p vs q r
  | _ => exact .oth _ _ rfl
theorem same_items {f : D → D → Option Bool} (ih : ∀ {d1 d2 : D} {b : Bool} {v : V}, Rep K H Ω d1 v → Rep K H Ω d2 v → f d1 d2 = some b → b = true) : ∀ {xs ys : List D} {vs : List V} {b : Bool}, Reps K H Ω xs vs → Reps K H Ω ys vs → eqsF f xs ys = some b → b = true
  | [], ys, vs, b, r1, r2, e => by
    cases (show vs = [] from r1)
    cases ys with
    | nil => cases e; rfl
    | cons y ys => obtain ⟨v, q, e1, _⟩ := (show ∃ v r, _ from r2); cases e1
  | x :: xs, ys, vs, b, r1, r2, e => by
    obtain ⟨v, q, e1, e2, e3⟩ := (show ∃ v r, _ from r1)
    subst e1
    cases ys with
    | nil => cases (show _ = [] from r2)
    | cons y ys =>
      obtain ⟨v', q', g1, g2, g3⟩ := (show ∃ v r, _ from r2)
      cases g1
      unfold eqsF at e
      split at e
      · rename_i p1 p2 z1 z2
        cases e
        rw [ih e2 g2 z1, same_items ih e3 g3 z2]; rfl
      · cases e
theorem same_B {g : List D → List D → Option Bool} (hs : Heaps K H s) (hg : ∀ {xs ys : List D} {vs : List V} {b : Bool}, Reps K H Ω xs vs → Reps K H Ω ys vs → g xs ys = some b → b = true) {d1 d2 : D} {b : Bool} {v : V} (h1 : RepB K H Ω d1 v) (h2 : RepB K H Ω d2 v) (e : deqB g d1 d2 = some b) : b = true := by
  cases asX h1 with
  | oth d v h => rw [oth1 h] at e; cases e
  | non => cases d2 <;> first | (cases e; done) | (cases e; rfl) | (cases h2; done) | (obtain ⟨_, _, z, _⟩ := (show ∃ a vs, _ from h2); cases z)
  | bl b => cases d2 <;> first | (cases e; done) | (cases h2; cases e; exact beq_self_eq_true _) | (cases h2; done) | (obtain ⟨_, _, z, _⟩ := (show ∃ a vs, _ from h2); cases z)
  | int i => cases d2 <;> first | (cases e; done) | (cases h2; cases e; exact beq_self_eq_true _) | (cases h2; done) | (obtain ⟨_, _, z, _⟩ := (show ∃ a vs, _ from h2); cases z)
  | str z => cases d2 <;> first | (cases e; done) | (cases h2; cases e; exact beq_self_eq_true _) | (cases h2; done) | (obtain ⟨_, _, z, _⟩ := (show ∃ a vs, _ from h2); cases z)
  | tup ds p vs q r =>
    cases d2 with
    | tup ds2 =>
      obtain ⟨p2, ws, z, q2, r2⟩ := rB_tup h2
      cases z
      obtain ⟨i1, k1, z1⟩ := hs.t _ _ q
      obtain ⟨i2, k2, z2⟩ := hs.t _ _ q2
      cases isTuple_inj z1 z2
      cases k1.inj k2
      exact hg r r2 e
    | lst ds2 =>
      obtain ⟨p2, ws, z, q2, r2⟩ := rB_lst h2
      cases z
      obtain ⟨_, _, k1⟩ := hs.t _ _ q
      obtain ⟨_, _, k2⟩ := hs.l _ _ q2
      exact (list_not_tuple k2 k1).elim
    | _ => first | (cases e; done) | (cases h2; done)
  | lst ds p vs q r =>
    cases d2 with
    | lst ds2 =>
      obtain ⟨p2, ws, z, q2, r2⟩ := rB_lst h2
      cases z
      obtain ⟨i1, k1, z1⟩ := hs.l _ _ q
      obtain ⟨i2, k2, z2⟩ := hs.l _ _ q2
      cases isList_inj z1 z2
      cases k1.inj k2
      exact hg r r2 e
    | tup ds2 =>
      obtain ⟨p2, ws, z, q2, r2⟩ := rB_tup h2
      cases z
      obtain ⟨_, _, k1⟩ := hs.t _ _ q2
      obtain ⟨_, _, k2⟩ := hs.l _ _ q
      exact (list_not_tuple k2 k1).elim
    | _ => first | (cases e; done) | (cases h2; done)
theorem same_true (hs : Heaps K H s) : ∀ (n : Nat) {d1 d2 : D} {b : Bool} {v : V}, Rep K H Ω d1 v → Rep K H Ω d2 v → deqF n d1 d2 = some b → b = true
  | 0, _, _, _, _, h1, h2, e => same_B hs (g := eqG 0) (fun _ _ z => nomatch z) h1.b h2.b e
  | n + 1, _, _, _, _, h1, h2, e => same_B hs (g := eqG (n + 1)) (same_items (f := deqF n) (same_true hs n)) h1.b h2.b e
theorem eq_flat (hs : Heaps K H s) {n : Nat} {A : Around} {d1 d2 : D} {b : Bool} {x y : V} {v u : Value} (hu : A.units < cLine) (h1 : RepB K H Ω d1 x) (h2 : RepB K H Ω d2 y) (r1 : RelV x v) (r2 : RelV y u) (e : deqF n d1 d2 = some b)
    (hc : ∀ xs ys, ¬ (d1 = .tup xs ∧ d2 = .tup ys) ∧ ¬ (d1 = .lst xs ∧ d2 = .lst ys)) : SeqAt.RcAt A s v u b ∧ SeqAt.RcNeAt A s v u (!b) ∧ SeqAt.EqAt A s v u b := by
  have e : deqB (eqG n) d1 d2 = some b := e
  cases asX h1 with
  | oth d v h => rw [oth1 h] at e; cases e
  | non =>
    cases (show v = Value.none from r1)
    cases asX h2 with
    | oth d v h => rw [oth2 h] at e; cases e
    | non => cases (show u = Value.none from r2); cases e; exact ⟨.none_none, .none_none, .same _⟩
    | bl b2 => cases (show u = Value.bool b2 from r2); cases e; exact ⟨.none_bool _, .none_bool _, .none_bool _⟩
    | int i2 => obtain ⟨t2, rfl⟩ := (show ∃ t, u = Value.int i2 t from r2); cases e; exact ⟨.none_int _ _, .none_int _ _, .none_int _ _⟩
    | str i2 => obtain ⟨t2, rfl⟩ := (show ∃ t, u = Value.str i2 t from r2); cases e; exact ⟨.none_str _ _, .none_str _ _, .none_str _ _⟩
    | tup _ p2 _ q2 _ => cases (show u = Value.ref p2 from r2); obtain ⟨_, _, k⟩ := hs.t _ _ q2; cases e; exact ⟨.none_tuple k hu, .none_tuple k hu, .none_tuple k hu⟩
    | lst _ p2 _ q2 _ => cases (show u = Value.ref p2 from r2); obtain ⟨_, _, k⟩ := hs.l _ _ q2; cases e; exact ⟨.none_list k hu, .none_list k hu, .none_list k hu⟩
  | bl b1 =>
    cases (show v = Value.bool b1 from r1)
    cases asX h2 with
    | oth d v h => rw [oth2 h] at e; cases e
    | non => cases (show u = Value.none from r2); cases e; exact ⟨.bool_none _, .bool_none _, .bool_none _⟩
    | bl b2 => cases (show u = Value.bool b2 from r2); cases e; exact ⟨.bool_bool _ _, .bool_bool _ _, .bool_bool _ _⟩
    | int i2 => cases e
    | str z2 => obtain ⟨t2, rfl⟩ := (show ∃ t, u = Value.str z2 t from r2); cases e; exact ⟨.bool_str _ _ _, .bool_str _ _ _, .bool_str _ _ _⟩
    | tup _ p2 _ q2 _ => cases (show u = Value.ref p2 from r2); obtain ⟨_, _, hl2⟩ := hs.t _ _ q2; cases e; exact ⟨.bool_tuple _ hl2 hu, .bool_tuple _ hl2 hu, .bool_tuple _ hl2 hu⟩
    | lst _ p2 _ q2 _ => cases (show u = Value.ref p2 from r2); obtain ⟨_, _, hl2⟩ := hs.l _ _ q2; cases e; exact ⟨.bool_list _ hl2 hu, .bool_list _ hl2 hu, .bool_list _ hl2 hu⟩
  | int i1 =>
    obtain ⟨t1, rfl⟩ := (show ∃ t, v = Value.int i1 t from r1)
    cases asX h2 with
    | oth d v h => rw [oth2 h] at e; cases e
    | non => cases (show u = Value.none from r2); cases e; exact ⟨.int_none _ _, .int_none _ _, .int_none _ _⟩
    | bl b2 => cases e
    | int i2 => obtain ⟨t2, rfl⟩ := (show ∃ t, u = Value.int i2 t from r2); cases e; exact ⟨.int_int _ _ _ _, .int_int _ _ _ _, .int_int _ _ _ _⟩
    | str z2 => obtain ⟨t2, rfl⟩ := (show ∃ t, u = Value.str z2 t from r2); cases e; exact ⟨.int_str _ _ _ _, .int_str _ _ _ _, .int_str _ _ _ _⟩
    | tup _ p2 _ q2 _ => cases (show u = Value.ref p2 from r2); obtain ⟨_, _, hl2⟩ := hs.t _ _ q2; cases e; exact ⟨.int_tuple _ _ hl2 hu, .int_tuple _ _ hl2 hu, .int_tuple _ _ hl2 hu⟩
    | lst _ p2 _ q2 _ => cases (show u = Value.ref p2 from r2); obtain ⟨_, _, hl2⟩ := hs.l _ _ q2; cases e; exact ⟨.int_list _ _ hl2 hu, .int_list _ _ hl2 hu, .int_list _ _ hl2 hu⟩
  | str z1 =>
    obtain ⟨t1, rfl⟩ := (show ∃ t, v = Value.str z1 t from r1)
    cases asX h2 with
    | oth d v h => rw [oth2 h] at e; cases e
    | non => cases (show u = Value.none from r2); cases e; exact ⟨.str_none _ _, .str_none _ _, .str_none _ _⟩
    | bl b2 => cases (show u = Value.bool b2 from r2); cases e; exact ⟨.str_bool _ _ _, .str_bool _ _ _, .str_bool _ _ _⟩
    | int i2 => obtain ⟨t2, rfl⟩ := (show ∃ t, u = Value.int i2 t from r2); cases e; exact ⟨.str_int _ _ _ _, .str_int _ _ _ _, .str_int _ _ _ _⟩
    | str z2 => obtain ⟨t2, rfl⟩ := (show ∃ t, u = Value.str z2 t from r2); cases e; exact ⟨.str_str _ _ _ _, .str_str _ _ _ _, .str_str _ _ _ _⟩
    | tup _ p2 _ q2 _ => cases (show u = Value.ref p2 from r2); obtain ⟨_, _, hl2⟩ := hs.t _ _ q2; cases e; exact ⟨.str_tuple _ _ hl2 hu, .str_tuple _ _ hl2 hu, .str_tuple _ _ hl2 hu⟩
    | lst _ p2 _ q2 _ => cases (show u = Value.ref p2 from r2); obtain ⟨_, _, hl2⟩ := hs.l _ _ q2; cases e; exact ⟨.str_list _ _ hl2 hu, .str_list _ _ hl2 hu, .str_list _ _ hl2 hu⟩
  | tup _ p1 _ q1 _ =>
    cases (show v = Value.ref p1 from r1); obtain ⟨_, _, hl1⟩ := hs.t _ _ q1
    cases asX h2 with
    | oth d v h => rw [oth2 h] at e; cases e
    | non => cases (show u = Value.none from r2); cases e; exact ⟨.tuple_none hl1 hu, .tuple_none hl1 hu, .tuple_none hl1 hu⟩
    | bl b2 => cases (show u = Value.bool b2 from r2); cases e; exact ⟨.tuple_bool _ hl1 hu, .tuple_bool _ hl1 hu, .tuple_bool _ hl1 hu⟩
    | int i2 => obtain ⟨t2, rfl⟩ := (show ∃ t, u = Value.int i2 t from r2); cases e; exact ⟨.tuple_int _ _ hl1 hu, .tuple_int _ _ hl1 hu, .tuple_int _ _ hl1 hu⟩
    | str z2 => obtain ⟨t2, rfl⟩ := (show ∃ t, u = Value.str z2 t from r2); cases e; exact ⟨.tuple_str _ _ hl1 hu, .tuple_str _ _ hl1 hu, .tuple_str _ _ hl1 hu⟩
    | tup _ p2 _ q2 _ => exact absurd ⟨rfl, rfl⟩ (hc _ _).1
    | lst _ p2 _ q2 _ => cases (show u = Value.ref p2 from r2); obtain ⟨_, _, hl2⟩ := hs.l _ _ q2; cases e; exact ⟨.tuple_list hl1 hl2 hu, .tuple_list hl1 hl2 hu, .tuple_list hl1 hl2 hu⟩
  | lst _ p1 _ q1 _ =>
    cases (show v = Value.ref p1 from r1); obtain ⟨_, _, hl1⟩ := hs.l _ _ q1
    cases asX h2 with
    | oth d v h => rw [oth2 h] at e; cases e
    | non => cases (show u = Value.none from r2); cases e; exact ⟨.list_none hl1 hu, .list_none hl1 hu, .list_none hl1 hu⟩
    | bl b2 => cases (show u = Value.bool b2 from r2); cases e; exact ⟨.list_bool _ hl1 hu, .list_bool _ hl1 hu, .list_bool _ hl1 hu⟩
    | int i2 => obtain ⟨t2, rfl⟩ := (show ∃ t, u = Value.int i2 t from r2); cases e; exact ⟨.list_int _ _ hl1 hu, .list_int _ _ hl1 hu, .list_int _ _ hl1 hu⟩
    | str z2 => obtain ⟨t2, rfl⟩ := (show ∃ t, u = Value.str z2 t from r2); cases e; exact ⟨.list_str _ _ hl1 hu, .list_str _ _ hl1 hu, .list_str _ _ hl1 hu⟩
    | tup _ p2 _ q2 _ => cases (show u = Value.ref p2 from r2); obtain ⟨_, _, hl2⟩ := hs.t _ _ q2; cases e; exact ⟨.list_tuple hl1 hl2 hu, .list_tuple hl1 hl2 hu, .list_tuple hl1 hl2 hu⟩
    | lst _ p2 _ q2 _ => exact absurd ⟨rfl, rfl⟩ (hc _ _).2
theorem vals_at {xs : List V} {its : List Value} (r : Vals xs its) {j : Nat} (h : j < its.toArray.size) : ∃ x, xs[j]? = some x ∧ RelV x its.toArray[j] := by
  have hl := r.length
  have h' : j < its.length := by simpa using h
  obtain ⟨x, hx⟩ : ∃ x, xs[j]? = some x := ⟨xs[j]'(by omega), List.getElem?_eq_getElem (by omega)⟩
  obtain ⟨u, hu, ru⟩ := r.get hx
  rw [List.getElem?_eq_getElem h'] at hu
  cases hu
  exact ⟨x, hx, by simpa using ru⟩
theorem eq_step (hs : Heaps K H s) {n : Nat} (ih : ∀ (A : Around) (d1 d2 : D) (b : Bool) (x y : V) (v u : Value), A.units + n < cLine → Rep K H Ω d1 x → Rep K H Ω d2 y → RelV x v → RelV y u → deqF n d1 d2 = some b → SeqAt.EqAt A s v u b)
    {A : Around} {d1 d2 : D} {b : Bool} {x y : V} {v u : Value} (hu : A.units + (n + 1) < cLine) (h1 : RepB K H Ω d1 x) (h2 : RepB K H Ω d2 y) (r1 : RelV x v) (r2 : RelV y u) (e : deqF (n + 1) d1 d2 = some b) : SeqAt.RcAt A s v u b ∧ SeqAt.RcNeAt A s v u (!b) := by
  have items : ∀ {xs ys : List D} {vs ws : List V} {i1 i2 : List Value} {ee : Nat → Bool}, Reps K H Ω xs vs → Reps K H Ω ys ws → Vals vs i1 → Vals ws i2 → (∀ i x y, xs[i]? = some x → ys[i]? = some y → deqF n x y = some (ee i)) →
      ∀ j (q1 : j < i1.toArray.size) (q2 : j < i2.toArray.size), SeqAt.EqAt A.in1 s i1.toArray[j] i2.toArray[j] (ee j) := by
    intro xs ys vs ws i1 i2 ee p1 p2 p3 p4 he j q1 q2
    obtain ⟨x1, g1, g2⟩ := vals_at p3 q1
    obtain ⟨y1, g3, g4⟩ := vals_at p4 q2
    have l1 := p1.length
    have l2 := p2.length
    have b1 : j < xs.length := by rw [l1]; exact (List.getElem?_eq_some_iff.mp g1).1
    have b2 : j < ys.length := by rw [l2]; exact (List.getElem?_eq_some_iff.mp g3).1
    obtain ⟨x2, z1, z2⟩ := p1.get (List.getElem?_eq_getElem b1)
    obtain ⟨y2, z3, z4⟩ := p2.get (List.getElem?_eq_getElem b2)
    rw [g1] at z1; cases z1
    rw [g3] at z3; cases z3
    exact ih A.in1 _ _ _ _ _ _ _ (by show A.units + 1 + n < cLine; omega) z2 z4 g2 g4 (he j _ _ (List.getElem?_eq_getElem b1) (List.getElem?_eq_getElem b2))
  by_cases ht : ∃ xs ys, d1 = .tup xs ∧ d2 = .tup ys
  · obtain ⟨xs, ys, rfl, rfl⟩ := ht
    obtain ⟨p1, vs, e1, q1, w1⟩ := rB_tup h1
    obtain ⟨p2, ws, e2, q2, w2⟩ := rB_tup h2
    cases e1; cases e2
    cases (show v = Value.ref p1 from r1); cases (show u = Value.ref p2 from r2)
    obtain ⟨i1, g1, hl1⟩ := hs.t _ _ q1
    obtain ⟨i2, g2, hl2⟩ := hs.t _ _ q2
    obtain ⟨ee, he, hb⟩ := eqsF_min (f := deqF n) e
    have hb' : b = ((List.range (min i1.toArray.size i2.toArray.size)).all ee && i1.toArray.size == i2.toArray.size) := by
      rw [hb, List.size_toArray, List.size_toArray, ← g1.length, ← g2.length, ← w1.length, ← w2.length]
    rw [hb']
    exact ⟨.tuples hl1 hl2 (by omega) (items w1 w2 g1 g2 he), .tuples hl1 hl2 (by omega) (items w1 w2 g1 g2 he)⟩
  · by_cases hl : ∃ xs ys, d1 = .lst xs ∧ d2 = .lst ys
    · obtain ⟨xs, ys, rfl, rfl⟩ := hl
      obtain ⟨p1, vs, e1, q1, w1⟩ := rB_lst h1
      obtain ⟨p2, ws, e2, q2, w2⟩ := rB_lst h2
      cases e1; cases e2
      cases (show v = Value.ref p1 from r1); cases (show u = Value.ref p2 from r2)
      obtain ⟨i1, g1, hl1⟩ := hs.l _ _ q1
      obtain ⟨i2, g2, hl2⟩ := hs.l _ _ q2
      have e' : eqsF (deqF n) xs ys = some b := e
      have s1 : i1.toArray.size = xs.length := by rw [List.size_toArray, ← g1.length, ← w1.length]
      have s2 : i2.toArray.size = ys.length := by rw [List.size_toArray, ← g2.length, ← w2.length]
      by_cases hlen : xs.length = ys.length
      · obtain ⟨ee, he, hb⟩ := eqsF_all e' hlen
        have hb' : b = (List.range i1.toArray.size).all ee := by rw [hb, s1]
        rw [hb']
        exact ⟨.lists hl1 hl2 (by rw [s1, s2, hlen]) (by omega) (items w1 w2 g1 g2 he), .lists hl1 hl2 (by rw [s1, s2, hlen]) (by omega) (items w1 w2 g1 g2 he)⟩
      · have hb := eqsF_len e' hlen
        subst hb
        have hne : (i1.toArray.size != i2.toArray.size) = true := by rw [s1, s2]; simpa using hlen
        exact ⟨.lists_lengths hl1 hl2 hne (by omega), .lists_lengths hl1 hl2 hne (by omega)⟩
    · have := eq_flat hs (A := A) (by omega) h1 h2 r1 r2 e fun xs ys => ⟨fun z => ht ⟨xs, ys, z⟩, fun z => hl ⟨xs, ys, z⟩⟩
      exact ⟨this.1, this.2.1⟩
theorem eq_main (hs : Heaps K H s) : ∀ (n : Nat) (A : Around) (d1 d2 : D) (b : Bool) (x y : V) (v u : Value), A.units + n < cLine → Rep K H Ω d1 x → Rep K H Ω d2 y → RelV x v → RelV y u → deqF n d1 d2 = some b → SeqAt.EqAt A s v u b := by
  intro n
  induction n with
  | zero =>
    intro A d1 d2 b x y v u hu h1 h2 r1 r2 e
    refine (eq_flat hs (by omega) h1.b h2.b r1 r2 e fun xs ys => ⟨?_, ?_⟩).2.2
    · rintro ⟨rfl, rfl⟩; cases e
    · rintro ⟨rfl, rfl⟩; cases e
  | succ n ih =>
    intro A d1 d2 b x y v u hu h1 h2 r1 r2 e
    by_cases hc : ∀ xs ys, ¬ (d1 = .tup xs ∧ d2 = .tup ys) ∧ ¬ (d1 = .lst xs ∧ d2 = .lst ys)
    · exact (eq_flat hs (by omega) h1.b h2.b r1 r2 e hc).2.2
    · have rc := (eq_step hs ih hu h1.b h2.b r1 r2 e).1
      have refs : ∃ p q, x = .ref p ∧ y = .ref q := by
        apply Classical.byContradiction
        intro hn
        apply hc
        intro xs ys
        refine ⟨?_, ?_⟩
        · rintro ⟨rfl, rfl⟩
          obtain ⟨p, _, e1, _⟩ := (show ∃ a vs, _ from h1)
          obtain ⟨q, _, e2, _⟩ := (show ∃ a vs, _ from h2)
          exact hn ⟨p, q, e1, e2⟩
        · rintro ⟨rfl, rfl⟩
          obtain ⟨p, _, e1, _⟩ := (show ∃ a vs, _ from h1)
          obtain ⟨q, _, e2, _⟩ := (show ∃ a vs, _ from h2)
          exact hn ⟨p, q, e1, e2⟩
      obtain ⟨p, q, rfl, rfl⟩ := refs
      cases (show v = Value.ref p from r1); cases (show u = Value.ref q from r2)
      by_cases hpq : p = q
      · subst hpq
        rw [same_true hs (n + 1) h1 h2 e]
        exact .same _
      · exact .of_refs hpq rc
end
section
variable {X : Cx}
noncomputable def gEq (d1 d2 : D) : Option DV := (deqF 8 d1 d2).map fun b => .val (.bl b)
noncomputable def gNe (d1 d2 : D) : Option DV := (deqF 8 d1 d2).map fun b => .val (.bl (!b))
noncomputable def rEqD (K : PySem.W.Frag) (neg : Bool) : R2 := fun x y H Q => ∃ Ω d1 d2 b, RepB K H Ω d1 x ∧ RepB K H Ω d2 y ∧ deqF 8 d1 d2 = some b ∧ Q (.bl (if neg then !b else b)) H
theorem op_eqD (hu : X.A.units + 64 < cLine) : OpR X (compareOp .Eq) (rEqD X.K false) := by
  intro pins s σ H x y v u Q I rx ry h
  obtain ⟨Ω, d1, d2, b, h1, h2, e, q⟩ := h
  exact (eq_step (Heaps.of I) (n := 7) (eq_main (Heaps.of I) 7) (by omega) h1 h2 rx ry e).1 _ _ _ _ ⟨.bl b, H, I, rfl, q⟩
theorem op_neD (hu : X.A.units + 64 < cLine) : OpR X (compareOp .NotEq) (rEqD X.K true) := by
  intro pins s σ H x y v u Q I rx ry h
  obtain ⟨Ω, d1, d2, b, h1, h2, e, q⟩ := h
  exact (eq_step (Heaps.of I) (n := 7) (eq_main (Heaps.of I) 7) (by omega) h1 h2 rx ry e).2 _ _ _ _ ⟨.bl (!b), H, I, rfl, q⟩
theorem cmp_eq (hu : X.A.units + 64 < cLine) : CmpD X .Eq gEq := ⟨_, op_eqD hu, by
  intro E σ H δ Ω x y d1 d2 z Q R r1 r2 hz h
  obtain ⟨b, e, rfl⟩ := Option.map_eq_some_iff.mp hz
  exact ⟨Ω, d1, d2, b, r1, r2, e, h.now R rfl⟩⟩
theorem cmp_ne (hu : X.A.units + 64 < cLine) : CmpD X .NotEq gNe := ⟨_, op_neD hu, by
  intro E σ H δ Ω x y d1 d2 z Q R r1 r2 hz h
  obtain ⟨b, e, rfl⟩ := Option.map_eq_some_iff.mp hz
  exact ⟨Ω, d1, d2, b, r1, r2, e, h.now R rfl⟩⟩
end
end DL
namespace DL
open PySem PySem.Spec PyProof.Rows L2
noncomputable def fNoPart : DM (Option Int) := .ret none
noncomputable def fPart (f : DM DV) : DM (Option Int) := (fN f).bd fun a δ => match res δ a with
  | some (.int i) => .ok (some i) δ
  | _ => .un
noncomputable def cutD {α : Type} (xs : List α) (lo hi : Option Int) : List α := (xs.drop (HT.sIx xs.length 0 lo)).take (HT.sIx xs.length xs.length hi - HT.sIx xs.length 0 lo)
noncomputable def gSlice (d : D) (lo hi : Option Int) : Option DV := match d with
  | .lst ds => some (.own (cutD ds lo hi))
  | .str z => if z.length ≤ sizeLine then some (.val (.str (Txt.slice z lo hi))) else none
  | _ => none
noncomputable def fSlice (f : DM DV) (lo hi : DM (Option Int)) : DM DV := (fN f).bd fun a => lo.bd fun l => hi.bd fun u => fun δ => match res δ a with
  | some d => (match gSlice d l u with | some r => .ok r δ | none => .un)
  | none => .un
section
variable {X : Cx} {E : Str → Hp → Prop} {pos p2 : Pos} {e : Expr} {f : DM DV} {lo hi : Option Expr} {fl fu : DM (Option Int)}
end
end DL
namespace DL
open PySem PySem.Spec PyProof.Rows L2
theorem glob_int {K : PySem.W.Frag} {mg : Str → Option Value} {x : Str} {i : Int} {t : Tok} (h : mg x = some (.int i t)) : GlobD K mg x (.int i) := ⟨_, .int i, h, ⟨t, rfl⟩, fun _ _ => rfl⟩
theorem script_sp {K : PySem.W.Frag} {ce : Str → Value} {M : List D → Ro} {H : Hp} {a : Addr} {ns : List Int} {E : XK} (hM : M [.scr ns] = .ok (.bl true)) (hO : Only H) (hS : SqL K H a (ns.map V.int)) : spP K ce 1 M [.ref a] H (fun v _ => v = .bl true) E := by
  refine ⟨rfl, fun _ => none, [.scr ns], fun _ _ q => (by cases q), fun _ _ q => (by cases q), .cons (show ∃ a, _ from ⟨a, rfl, ?_⟩) .nil, ?_⟩
  · rcases hS with (h | ⟨o, h⟩) | h
    · rcases hO a with z | ⟨o, xs, z⟩ <;> (rw [z] at h; cases h)
    · exact .inl ⟨o, h⟩
    · exact .inr h
  · rw [hM]
    exact fun H' Ω' _ _ v r => r
end DL
namespace DL
open PySem L2
theorem comp_fm {fe : DM DV} {fc : DM Bool} {rest : DSt} {g : D → D} {p : D → Bool} : ∀ (ds : List D) (s0 : Sl) (out : List D), out.length + ds.length ≤ sizeLine →
    (∀ d ∈ ds, fc (.sh d :: rest) = .ok (p d) (.sh d :: rest)) → (∀ d ∈ ds, p d = true → fN fe (.sh d :: rest) = .ok (.val (g d)) (.sh d :: rest)) →
    compD (sName 0) fc fe ds (s0 :: rest) out = some (out ++ (ds.filter p).map g)
  | [], _, out, _, _, _ => by simp [compD]
  | d :: ds, s0, out, hl, hc, he => by
    have h1 := hc d List.mem_cons_self
    have hl' : out.length + (ds.length + 1) ≤ sizeLine := hl
    have ih := fun out' (h : out'.length + ds.length ≤ sizeLine) => comp_fm ds (.sh d) out' h (fun x hx => hc x (List.mem_cons_of_mem _ hx)) (fun x hx => he x (List.mem_cons_of_mem _ hx))
    unfold compD
    show (match fc (.sh d :: rest) with | .ok true δ2 => _ | .ok false δ2 => _ | _ => _) = _
    rw [h1]
    cases hp : p d with
    | false =>
      show compD (sName 0) fc fe ds (.sh d :: rest) out = _
      rw [ih out (by omega), List.filter_cons_of_neg (by simp [hp])]
    | true =>
      show (match fN fe (.sh d :: rest) with | .ok (.val v) δ3 => _ | _ => _) = _
      rw [he d List.mem_cons_self hp]
      show (if out.length < sizeLine then compD (sName 0) fc fe ds (.sh d :: rest) (out ++ [g d]) else none) = _
      rw [if_pos (by omega), ih _ (by rw [List.length_append, List.length_singleton]; omega), List.filter_cons_of_pos hp, List.map_cons, List.append_assoc]
      rfl
theorem comp_map {fe : DM DV} {rest : DSt} {g : D → D} (ds : List D) (s0 : Sl) (hl : ds.length ≤ sizeLine) (he : ∀ d ∈ ds, fN fe (.sh d :: rest) = .ok (.val (g d)) (.sh d :: rest)) :
    compD (sName 0) (.ret true) fe ds (s0 :: rest) [] = some (ds.map g) := by
  have := comp_fm (fc := .ret true) (p := fun _ => true) (g := g) ds s0 [] (by simpa using hl) (fun _ _ => rfl) (fun d hd _ => he d hd)
  rw [List.filter_eq_self.mpr (fun _ _ => rfl), List.nil_append] at this
  exact this
noncomputable def okD : Nat → D → Bool
  | _, .non => true
  | _, .int _ => true
  | _, .str _ => true
  | _, .bl _ => true
  | n + 1, .tup xs => xs.all (okD n)
  | n + 1, .lst xs => xs.all (okD n)
  | _, _ => false
theorem deq_self : ∀ (n : Nat) (d : D), okD n d = true → deqF n d d = some true := by
  intro n
  induction n with
  | zero => intro d h; cases d <;> first | (cases h; done) | rfl | exact congrArg some (beq_self_eq_true _)
  | succ n ih =>
    have items : ∀ xs : List D, xs.all (okD n) = true → eqsF (deqF n) xs xs = some true := by
      intro xs
      induction xs with
      | nil => intro _; rfl
      | cons x xs ihx =>
        intro h
        rw [List.all_cons, Bool.and_eq_true] at h
        unfold eqsF
        rw [ih x h.1, ihx h.2]
        rfl
    intro d h
    cases d with
    | tup xs => exact items xs h
    | lst xs => exact items xs h
    | _ => first | (cases h; done) | rfl | exact congrArg some (beq_self_eq_true _)
theorem rangeD_mem {lo : Int} {n : Nat} {d : D} (h : d ∈ rangeD lo n) : ∃ k : Nat, k < n ∧ d = .int (lo + k) := by
  unfold rangeD at h
  obtain ⟨k, hk, e⟩ := List.mem_map.mp h
  exact ⟨k, List.mem_range.mp hk, e.symm⟩
theorem range0_mem {n : Nat} {d : D} (h : d ∈ rangeD 0 n) : ∃ k : Nat, k < n ∧ d = .int (k : Int) := by
  obtain ⟨k, hk, e⟩ := rangeD_mem h
  exact ⟨k, hk, by rw [e, Int.zero_add]⟩
theorem rangeD_len (lo : Int) (n : Nat) : (rangeD lo n).length = n := by unfold rangeD; rw [List.length_map, List.length_range]
end DL
namespace DL
open PySem L2
section
variable {f f1 f2 g fo : DM DV} {fa r : DM (List DV)} {δ δ1 δ2 δ3 : DSt} {a a1 a2 : DV} {d d1 d2 : D} {z : DV} {as : List DV} {ds es : List D} {i n : Nat} {R : Rs Fl} {S S1 : DM Fl} {c c1 : DM Bool} {b b1 : Bool}
theorem ev_var (h : δ[i]? = some (.sh d)) : fVar i δ = .ok (.val d) δ := by unfold fVar; rw [h]
theorem ev_slot (h : δ[i]? = some (.ow ds)) : fVar i δ = .ok (.slot i) δ := by unfold fVar; rw [h]
theorem ev_c : fC d δ = .ok (.val d) δ := rfl
theorem ev_nil : fNil δ = .ok [] δ := rfl
theorem ev_cons (h1 : f δ = .ok a δ1) (h2 : r δ1 = .ok as δ2) : fCons f r δ = .ok (norm a :: as) δ2 := by unfold fCons fN DM.bd DM.ret; simp only [h1, h2]
theorem ev_bin {gg : D → D → Option DV} (h1 : f1 δ = .ok a1 δ1) (h2 : f2 δ1 = .ok a2 δ2) (e1 : res δ2 (norm a1) = some d1) (e2 : res δ2 (norm a2) = some d2) (hg : gg d1 d2 = some z) : fBin f1 f2 gg δ = .ok z δ2 := by
  unfold fBin fN DM.bd DM.ret; simp only [h1, h2, e1, e2, hg]
theorem ev_un {gg : D → Option DV} (h1 : f δ = .ok a δ1) (e1 : res δ1 (norm a) = some d1) (hg : gg d1 = some z) : fUn f gg δ = .ok z δ1 := by
  unfold fUn fN DM.bd DM.ret; simp only [h1, e1, hg]
theorem ev_cb {gg : List D → Option DV} (h : fa δ = .ok as δ1) (e : resAll δ1 as = some ds) (hg : gg ds = some z) : fCB fa gg δ = .ok z δ1 := by
  unfold fCB DM.bd; simp only [h, e, hg]
theorem ev_call {M : List D → Ro} (h : fa δ = .ok as δ1) (e : valsOf as = some ds) (hn : ds.length = n) (hM : M ds = .ok d) : fCall n fa M δ = .ok (.val d) δ1 := by
  unfold fCall DM.bd; simp only [h, e, hn, if_true, hM]
noncomputable def roRs : Ro → DSt → Rs DV
  | .un, _ => .un
  | .er c, _ => .er c
  | .ok d, δ => .ok (.val d) δ
  | .own es, δ => .ok (.own es) δ
theorem ev_callG {M : List D → Ro} {ro : Ro} {Z : Rs DV} (h : fa δ = .ok as δ1) (e : valsOf as = some ds) (hn : ds.length = n) (hM : M ds = ro) (hr : roRs ro δ1 = Z) : fCall n fa M δ = Z := by
  unfold fCall DM.bd; simp only [h, e, hn, if_true, hM]; cases ro <;> exact hr
theorem roRs_ok : roRs (.ok d) δ = .ok (.val d) δ := rfl
theorem roRs_own : roRs (.own ds) δ = .ok (.own ds) δ := rfl
theorem ev_tup (h : fa δ = .ok as δ1) (e : valsOf as = some ds) (hl : ds.length ≤ sizeLine) : fTup fa δ = .ok (.val (.tup ds)) δ1 := by
  unfold fTup DM.bd; simp only [h, e, hl, if_true]
theorem ev_lst (h : fa δ = .ok as δ1) (e : valsOf as = some ds) (hl : ds.length ≤ sizeLine) : fLst fa δ = .ok (.own ds) δ1 := by
  unfold fLst DM.bd; simp only [h, e, hl, if_true]
theorem ev_set (h : f δ = .ok a δ1) (e : norm a = .val d) : fSet i f δ = .ok .nx (δ1.set i (.sh d)) := by
  unfold fSet fN DM.bd DM.ret; simp only [h, e]
theorem ev_setO (h : f δ = .ok (.own ds) δ1) : fSetO i f δ = .ok .nx (δ1.set i (.ow ds)) := by
  unfold fSetO DM.bd; simp only [h]
noncomputable def seqK (r : Rs Fl) (S1 : DM Fl) : Rs Fl := match r with
  | .ok .nx δ' => S1 δ'
  | r => r
theorem ev_seqK {R1 : Rs Fl} (h1 : S δ = R1) (h2 : seqK R1 S1 = R) : fSeq S S1 δ = R := by unfold fSeq; rw [h1]; exact h2
theorem seqK_nx (h : S1 δ = R) : seqK (.ok .nx δ) S1 = R := h
theorem seqK_rt : seqK (.ok (.rt d) δ) S1 = .ok (.rt d) δ := rfl
theorem seqK_rto : seqK (.ok (.rto ds) δ) S1 = .ok (.rto ds) δ := rfl
theorem ev_next : fNext δ = .ok .nx δ := rfl
noncomputable def retK (r : Rs DV) : Rs Fl := match r with
  | .un => .un
  | .er c => .er c
  | .ok (.val d) δ => .ok (.rt d) δ
  | .ok (.own ds) δ => .ok (.rto ds) δ
  | .ok (.slot i) δ => (match δ[i]? with | some (.ow ds) => .ok (.rto ds) (δ.set i .no) | _ => .un)
  | .ok (.fld _ _) _ => .un
theorem ev_retK {Z : Rs DV} (h : f δ = Z) (h2 : retK Z = R) : fRet f δ = R := by
  subst h
  rw [← h2]
  unfold fRet DM.bd retK
  cases f δ with
  | un => rfl
  | er c => rfl
  | ok a δ' => cases a <;> rfl
theorem retK_val : retK (.ok (.val d) δ) = .ok (.rt d) δ := rfl
theorem retK_own : retK (.ok (.own ds) δ) = .ok (.rto ds) δ := rfl
theorem retK_slot (e : δ[i]? = some (.ow ds)) : retK (.ok (.slot i) δ) = .ok (.rto ds) (δ.set i .no) := by unfold retK; simp only [e]
theorem ev_test (h : f δ = .ok a δ1) (e : res δ1 (norm a) = some (.bl b)) : fTest f δ = .ok b δ1 := by unfold fTest fN DM.bd DM.ret; simp only [h, e]
theorem ev_app (ho : δ[i]? = some (.ow es)) (h : f δ = .ok a δ1) (e : norm a = .val d) (e2 : δ1[i]? = some (.ow ds)) (hl : ds.length < sizeLine) : fApp' i f δ = .ok .nx (δ1.set i (.ow (ds ++ [d]))) := by
  unfold fApp' isOw fApp fN DM.bd DM.ret; simp only [ho, if_true, h, e, e2, hl]
theorem ev_lc {fi : DM (List D)} {t : D → DSt → Option DSt} {fc : DM Bool} {fe : DM DV} {sel : List (Option Nat)} (h : fi δ = .ok ds δ1) (hc : compD t fc fe ds (captD δ1 sel) [] = some es) : fLC fi t fc fe sel δ = .ok (.own es) δ1 := by
  unfold fLC DM.bd; simp only [h, hc]
theorem ev_rng1 {j : Int} (h : fa δ = .ok as δ1) (e : as = [.val (.int j)]) (hs : small62 j = true) : fRng1 fa δ = .ok (rangeD 0 j.toNat) δ1 := by subst e; unfold fRng1 DM.bd; simp only [h, hs, if_true]
theorem ev_rng2 {j k : Int} (h : fa δ = .ok as δ1) (e : as = [.val (.int j), .val (.int k)]) (hs : small62 j = true) (hs2 : small62 k = true) : fRng2 fa δ = .ok (rangeD j (k - j).toNat) δ1 := by subst e; unfold fRng2 DM.bd; simp only [h, hs, hs2, Bool.and_self, if_true]
theorem ev_it {gg : D → Option (List D)} (h : f δ = .ok a δ1) (e : norm a = .val d) (hg : gg d = some ds) : fIt f gg δ = .ok ds δ1 := by unfold fIt fN DM.bd DM.ret; simp only [h, e, hg]
theorem ev_for {fi : DM (List D)} {t : D → DSt → Option DSt} (h : fi δ = .ok ds δ1) (hr : loopD t S ds δ1 = R) : fFor fi t S δ = R := by unfold fFor DM.bd; simp only [h]; exact hr
theorem ev_bm {gg : D → List D → Option DV} {x : Str} (h1 : fo δ = .ok a δ1) (e0 : res δ1 (norm a) = some (.str x)) (h2 : fa δ1 = .ok as δ2) (e1 : res δ2 (norm a) = some d) (e2 : resAll δ2 as = some ds) (hg : gg d ds = some z) : fBM fo fa gg δ = .ok z δ2 := by
  unfold fBM fN DM.bd DM.ret; simp only [h1, e0, h2, e1, e2, hg]
theorem ev_slice {lo hi : DM (Option Int)} {l u : Option Int} (h : f δ = .ok a δ1) (hl : lo δ1 = .ok l δ2) (hu : hi δ2 = .ok u δ3) (e : res δ3 (norm a) = some d) (hg : gSlice d l u = some z) : fSlice f lo hi δ = .ok z δ3 := by
  unfold fSlice fN DM.bd DM.ret; simp only [h, hl, hu, e, hg]
theorem ev_nopart : fNoPart δ = .ok none δ := rfl
theorem ev_part {j : Int} (h : f δ = .ok a δ1) (e : res δ1 (norm a) = some (.int j)) : fPart f δ = .ok (some j) δ1 := by unfold fPart fN DM.bd DM.ret; simp only [h, e]
theorem ev_andT {Z : Rs DV} (h : f δ = .ok a δ1) (e : res δ1 (norm a) = some (.bl b)) (hb : b = true) (hr : g δ1 = Z) : fAndV f g δ = Z := by
  unfold fAndV fBool fN DM.bd DM.ret; simp only [h, e, hb, if_true]; exact hr
theorem ev_andF (h : f δ = .ok a δ1) (e : res δ1 (norm a) = some (.bl b)) (hb : b = false) : fAndV f g δ = .ok (.val (.bl false)) δ1 := by
  unfold fAndV fBool fN DM.bd DM.ret; simp only [h, e, hb, Bool.false_eq_true, if_false]; rfl
theorem ev_orT (h : f δ = .ok a δ1) (e : res δ1 (norm a) = some (.bl b)) (hb : b = true) : fOrV f g δ = .ok (.val (.bl true)) δ1 := by
  unfold fOrV fBool fN DM.bd DM.ret; simp only [h, e, hb, if_true]; rfl
theorem ev_orF {Z : Rs DV} (h : f δ = .ok a δ1) (e : res δ1 (norm a) = some (.bl b)) (hb : b = false) (hr : g δ1 = Z) : fOrV f g δ = Z := by
  unfold fOrV fBool fN DM.bd DM.ret; simp only [h, e, hb, Bool.false_eq_true, if_false]; exact hr
theorem ev_not (h : f δ = .ok a δ1) (e : res δ1 (norm a) = some (.bl b)) : fNotV f δ = .ok (.val (.bl (!b))) δ1 := by
  unfold fNotV fBool fN DM.bd DM.ret; simp only [h, e]; rfl
theorem ev_notT (h : c δ = .ok b δ1) : fNotT c δ = .ok (!b) δ1 := by unfold fNotT DM.bd; simp only [h]; rfl
theorem ev_if (h : c δ = .ok b δ1) (hr : (if b = true then S δ1 else S1 δ1) = R) : fIf c S S1 δ = R := by unfold fIf DM.bd; simp only [h]; cases b <;> exact hr
theorem ev_and {Z : Rs DV} (h : f δ = .ok a δ1) (e : res δ1 (norm a) = some (.bl b)) (hr : (if b = true then g δ1 else .ok (.val (.bl false)) δ1) = Z) : fAndV f g δ = Z := by
  cases b with
  | true => exact ev_andT h e rfl hr
  | false => exact (ev_andF h e rfl).trans hr
theorem ev_or {Z : Rs DV} (h : f δ = .ok a δ1) (e : res δ1 (norm a) = some (.bl b)) (hr : (if b = true then .ok (.val (.bl true)) δ1 else g δ1) = Z) : fOrV f g δ = Z := by
  cases b with
  | true => exact (ev_orT h e rfl).trans hr
  | false => exact ev_orF h e rfl hr
theorem ev_ifE {Z : Rs DV} (h : c δ = .ok b δ1) (hr : (if b = true then f δ1 else g δ1) = Z) : fIfE c f g δ = Z := by unfold fIfE DM.bd; simp only [h]; cases b <;> exact hr
theorem ev_andTg {Z : Rs Bool} (h : c δ = .ok b δ1) (hr : (if b = true then c1 δ1 else .ok false δ1) = Z) : fAndT c c1 δ = Z := by unfold fAndT DM.bd; simp only [h]; cases b <;> exact hr
theorem ev_orTg {Z : Rs Bool} (h : c δ = .ok b δ1) (hr : (if b = true then .ok true δ1 else c1 δ1) = Z) : fOrT c c1 δ = Z := by unfold fOrT DM.bd; simp only [h]; cases b <;> exact hr
theorem ev_iteT {α : Type} {x y z : α} (hb : b = true) (h : x = z) : (if b = true then x else y) = z := by rw [hb]; exact h
theorem ev_iteF {α : Type} {x y z : α} (hb : b = false) (h : y = z) : (if b = true then x else y) = z := by rw [hb]; exact h
theorem loop_nil {t : D → DSt → Option DSt} : loopD t S [] δ = .ok .nx δ := rfl
theorem loop_nx {t : D → DSt → Option DSt} (ht : t d δ = some δ1) (hb : S δ1 = .ok .nx δ2) (hr : loopD t S ds δ2 = R) : loopD t S (d :: ds) δ = R := by unfold loopD; rw [ht]; dsimp only; rw [hb]; exact hr
theorem ev_run {body : DM Fl} (h : body (ds.map .sh ++ List.replicate (n - ds.length) .no) = .ok (.rt d) δ1) : runP body n ds = .ok d := by unfold runP; rw [h]
theorem ev_runO {body : DM Fl} (h : body (ds.map .sh ++ List.replicate (n - ds.length) .no) = .ok (.rto es) δ1) : runP body n ds = .own es := by unfold runP; rw [h]
theorem og_addI {i j : Int} : gAdd (.int i) (.int j) = some (.val (.int (i + j))) := rfl
theorem og_addS {x y : Str} (h : x.length + y.length ≤ sizeLine) : gAdd (.str x) (.str y) = some (.val (.str (x ++ y))) := if_pos h
theorem og_addL {xs ys : List D} (h : xs.length + ys.length ≤ sizeLine) : gAdd (.lst xs) (.lst ys) = some (.own (xs ++ ys)) := if_pos h
theorem og_mul {i j : Int} (h : cmul i j = true) : gMul (.int i) (.int j) = some (.val (.int (i * j))) := if_pos h
theorem og_div {i j : Int} (h : cdiv j = true) : gDiv (.int i) (.int j) = some (.val (.int (i / j))) := if_pos h
theorem og_mod {i j : Int} (h : decide (0 < j) = true) : gMod (.int i) (.int j) = some (.val (.int (i % j))) := if_pos h
theorem og_ixL {j : Int} (h : atI ds j = some d) : gIx (.lst ds) (.int j) = some (.val d) := by show (atI ds j).map DV.val = _; rw [h]; rfl
theorem og_ixT {j : Int} (h : atI ds j = some d) : gIx (.tup ds) (.int j) = some (.val d) := by show (atI ds j).map DV.val = _; rw [h]; rfl
theorem atI_zero {α : Type} (x : α) (xs : List α) : atI (x :: xs) 0 = some x := by
  unfold atI ixN
  rw [if_pos (Int.le_refl 0), if_pos (by rw [List.length_cons]; omega)]
  rfl
theorem og_ixL0 : gIx (.lst (d :: ds)) (.int 0) = some (.val d) := og_ixL (atI_zero d ds)
theorem atI_of {α : Type} {xs : List α} {j : Int} {x : α} (h0 : 0 ≤ j) (h : xs[j.toNat]? = some x) : atI xs j = some x := by
  have hl := (List.getElem?_eq_some_iff.mp h).1
  unfold atI ixN
  rw [if_pos h0, if_pos (by omega)]
  exact h
theorem og_lenS {x : Str} (h : x.length ≤ sizeLine) : gLen [.str x] = some (.val (.int x.length)) := if_pos h
theorem og_join {sep : Str} {ys : List Str} (e : strsOf ds = some ys) (h : (ys.map (·.length)).sum + ys.length * sep.length ≤ 16777216) : gJoin (.str sep) [.lst ds] = some (.val (.str (Txt.join sep ys))) := by
  show (strsOf ds).bind _ = _; rw [e]; exact if_pos h
theorem og_strI {j : Int} (h : j.natAbs.log2 < 1920) : gStr [.int j] = some (.val (.str (Str.ofString (toString j)))) := if_pos h
theorem og_eq {b : Bool} (h : deqF 8 d1 d2 = some b) : gEq d1 d2 = some (.val (.bl b)) := by unfold gEq; rw [h]; rfl
theorem og_ne {b : Bool} (h : deqF 8 d1 d2 = some b) : gNe d1 d2 = some (.val (.bl (!b))) := by unfold gNe; rw [h]; rfl
theorem og_cmulL {i j : Int} (h1 : -18446744073709551616 < i) (h2 : i < 18446744073709551616) : cmul i j = true := by unfold cmul; rw [decide_eq_true h1, decide_eq_true h2]; rfl
theorem og_cmulR {i j : Int} (h1 : -18446744073709551616 < j) (h2 : j < 18446744073709551616) : cmul i j = true := by unfold cmul; rw [decide_eq_true h1, decide_eq_true h2]; simp
theorem og_small {j : Int} (h1 : -4611686018427387904 ≤ j) (h2 : j < 4611686018427387904) : small62 j = true := by unfold small62; simp; exact ⟨by omega, by omega⟩
theorem og_slL {l u : Option Int} : gSlice (.lst ds) l u = some (.own (cutD ds l u)) := rfl
end
theorem gis_int_non  : gIs "int" (.non) = some (.val (.bl false)) := by simp [gIs, isD, isTs, tyD, isExc]
theorem gis_int_bl {x : Bool} : gIs "int" (.bl x) = some (.val (.bl true)) := by simp [gIs, isD, isTs, tyD, isExc]
theorem gis_int_int {x : Int} : gIs "int" (.int x) = some (.val (.bl true)) := by simp [gIs, isD, isTs, tyD, isExc]
theorem gis_int_str {x : Str} : gIs "int" (.str x) = some (.val (.bl false)) := by simp [gIs, isD, isTs, tyD, isExc]
theorem gis_int_tup {x : List D} : gIs "int" (.tup x) = some (.val (.bl false)) := by simp [gIs, isD, isTs, tyD, isExc]
theorem gis_int_lst {x : List D} : gIs "int" (.lst x) = some (.val (.bl false)) := by simp [gIs, isD, isTs, tyD, isExc]
theorem gis_bool_non  : gIs "bool" (.non) = some (.val (.bl false)) := by simp [gIs, isD, isTs, tyD, isExc]
theorem gis_bool_bl {x : Bool} : gIs "bool" (.bl x) = some (.val (.bl true)) := by simp [gIs, isD, isTs, tyD, isExc]
theorem gis_bool_int {x : Int} : gIs "bool" (.int x) = some (.val (.bl false)) := by simp [gIs, isD, isTs, tyD, isExc]
theorem gis_bool_str {x : Str} : gIs "bool" (.str x) = some (.val (.bl false)) := by simp [gIs, isD, isTs, tyD, isExc]
theorem gis_bool_tup {x : List D} : gIs "bool" (.tup x) = some (.val (.bl false)) := by simp [gIs, isD, isTs, tyD, isExc]
theorem gis_bool_lst {x : List D} : gIs "bool" (.lst x) = some (.val (.bl false)) := by simp [gIs, isD, isTs, tyD, isExc]
theorem gis_str_non  : gIs "str" (.non) = some (.val (.bl false)) := by simp [gIs, isD, isTs, tyD, isExc]
theorem gis_str_bl {x : Bool} : gIs "str" (.bl x) = some (.val (.bl false)) := by simp [gIs, isD, isTs, tyD, isExc]
theorem gis_str_int {x : Int} : gIs "str" (.int x) = some (.val (.bl false)) := by simp [gIs, isD, isTs, tyD, isExc]
theorem gis_str_str {x : Str} : gIs "str" (.str x) = some (.val (.bl true)) := by simp [gIs, isD, isTs, tyD, isExc]
theorem gis_str_tup {x : List D} : gIs "str" (.tup x) = some (.val (.bl false)) := by simp [gIs, isD, isTs, tyD, isExc]
theorem gis_str_lst {x : List D} : gIs "str" (.lst x) = some (.val (.bl false)) := by simp [gIs, isD, isTs, tyD, isExc]
theorem gis_list_non  : gIs "list" (.non) = some (.val (.bl false)) := by simp [gIs, isD, isTs, tyD, isExc]
theorem gis_list_bl {x : Bool} : gIs "list" (.bl x) = some (.val (.bl false)) := by simp [gIs, isD, isTs, tyD, isExc]
theorem gis_list_int {x : Int} : gIs "list" (.int x) = some (.val (.bl false)) := by simp [gIs, isD, isTs, tyD, isExc]
theorem gis_list_str {x : Str} : gIs "list" (.str x) = some (.val (.bl false)) := by simp [gIs, isD, isTs, tyD, isExc]
theorem gis_list_tup {x : List D} : gIs "list" (.tup x) = some (.val (.bl false)) := by simp [gIs, isD, isTs, tyD, isExc]
theorem gis_list_lst {x : List D} : gIs "list" (.lst x) = some (.val (.bl true)) := by simp [gIs, isD, isTs, tyD, isExc]
theorem gis_tuple_non  : gIs "tuple" (.non) = some (.val (.bl false)) := by simp [gIs, isD, isTs, tyD, isExc]
theorem gis_tuple_bl {x : Bool} : gIs "tuple" (.bl x) = some (.val (.bl false)) := by simp [gIs, isD, isTs, tyD, isExc]
theorem gis_tuple_int {x : Int} : gIs "tuple" (.int x) = some (.val (.bl false)) := by simp [gIs, isD, isTs, tyD, isExc]
theorem gis_tuple_str {x : Str} : gIs "tuple" (.str x) = some (.val (.bl false)) := by simp [gIs, isD, isTs, tyD, isExc]
theorem gis_tuple_tup {x : List D} : gIs "tuple" (.tup x) = some (.val (.bl true)) := by simp [gIs, isD, isTs, tyD, isExc]
theorem gis_tuple_lst {x : List D} : gIs "tuple" (.lst x) = some (.val (.bl false)) := by simp [gIs, isD, isTs, tyD, isExc]
end DL
namespace DL
open PySem PySem.Spec PyProof.Rows L2
section
variable {X : Cx} {E : Str → Hp → Prop} {pos : Pos} {a b c e : Expr} {f g h : DM DV} {mp : List Nat}
noncomputable def blsOf : List D → Option (List Bool)
  | [] => some []
  | .bl i :: r => (blsOf r).map fun xs => i :: xs
  | _ :: _ => none
theorem bls_vals {K : PySem.W.Frag} {H : Hp} {Ω : Om} : ∀ {ds : List D} {vs : List V} {xs : List Bool}, Reps K H Ω ds vs → blsOf ds = some xs → vs = xs.map V.bl
  | [], _, _, r, h => by cases h; exact r
  | d :: ds, _, xs, r, h => by
    obtain ⟨v, q, e1, e2, e3⟩ := (show ∃ v r, _ from r)
    cases d with
    | bl x =>
      obtain ⟨ys, h1, rfl⟩ := Option.map_eq_some_iff.mp (show (blsOf ds).map _ = _ from h)
      rw [e1, bls_vals e3 h1, (show v = .bl x from e2)]
      rfl
    | _ => cases h
noncomputable def gAll : List D → Option DV
  | [.lst ds] => (blsOf ds).map fun ns => .val (.bl (ns.all id))
  | _ => none
theorem cb_all (hc : X.calm = true) : CallD X (.builtin "all") gAll := ⟨_, call_allL hc, by
  intro E σ H δ Ω vs ds z Q R r hz h
  unfold gAll at hz
  split at hz
  · obtain ⟨ns, h1, rfl⟩ := Option.map_eq_some_iff.mp hz
    obtain ⟨v, e, rv⟩ := rBs_one r
    obtain ⟨a, ws, e1, e2, e3⟩ := rB_lst rv
    subst e1
    have hw := bls_vals e3 h1
    subst hw
    exact ⟨a, ns, e, .inl e2, h.now R rfl⟩
  · cases hz⟩
theorem rBs_two {K : PySem.W.Frag} {H : Hp} {Ω : Om} {d d' : D} {vs : List V} (h : RepBs K H Ω [d, d'] vs) : ∃ v v', vs = [v, v'] ∧ RepB K H Ω d v ∧ RepB K H Ω d' v' := by
  obtain ⟨v, r, e1, e2, e3⟩ := h
  obtain ⟨v', r', e1', e2', e3'⟩ := e3
  cases (show r' = [] from e3')
  subst e1'
  exact ⟨v, v', e1, e2, e2'⟩
noncomputable def imin (i j : Int) : Int := if j < i then j else i
noncomputable def gMin : List D → Option DV
  | [.int i, .int j] => some (.val (.int (imin i j)))
  | _ => none
theorem cb_min (hc : X.calm = true) : CallD X (.builtin "min") gMin := ⟨_, call_min2 hc, by
  intro E σ H δ Ω vs ds z Q R r hz h
  unfold gMin at hz
  split at hz
  · cases hz
    obtain ⟨v, v', e, rv, rv'⟩ := rBs_two r
    cases (show v = .int _ from rv)
    cases (show v' = .int _ from rv')
    exact ⟨_, _, e, h.now R rfl⟩
  · cases hz⟩
noncomputable def gTuple : List D → Option DV
  | [.lst ds] => some (.val (.tup ds))
  | [.tup ds] => some (.val (.tup ds))
  | _ => none
theorem cb_tuple : CallD X (.type "tuple") gTuple := ⟨_, call_tuple_of, by
  intro E σ H δ Ω vs ds z Q R r hz h
  unfold gTuple at hz
  split at hz
  · cases hz
    obtain ⟨v, e, rv⟩ := rBs_one r
    obtain ⟨a, ws, e1, e2, e3⟩ := rB_lst rv
    subst e1
    exact ⟨a, ws, e, .inl ⟨.inl e2, fun p hp => h.allocT R hp e3⟩⟩
  · cases hz
    obtain ⟨v, e, rv⟩ := rBs_one r
    have rv' := rv
    obtain ⟨a, ws, e1, e2, e3⟩ := rB_tup rv
    subst e1
    exact ⟨a, ws, e, .inr ⟨e2, h.now R rv'⟩⟩
  · cases hz⟩
noncomputable def isNon : D → Bool
  | .non => true
  | _ => false
theorem rB_non {K : PySem.W.Frag} {H : Hp} {Ω : Om} {d : D} {v : V} (h : RepB K H Ω d v) : decide (v = .non) = isNon d := by
  cases d with
  | non => cases (show v = .non from h); rfl
  | bl y => cases (show v = .bl y from h); rfl
  | int y => cases (show v = .int y from h); rfl
  | str y => cases (show v = .str y from h); rfl
  | tup ds => obtain ⟨p, vs, e1, e2, e3⟩ := rB_tup h; subst e1; rfl
  | lst ds => obtain ⟨p, vs, e1, e2, e3⟩ := rB_lst h; subst e1; rfl
  | scr ns => obtain ⟨p, e1, e2⟩ := (show ∃ a, _ from h); subst e1; rfl
  | exc c => obtain ⟨p, C, e1, e2⟩ := (show ∃ a C, _ from h); subst e1; rfl
  | key r n => obtain ⟨p, e1, e2⟩ := (show ∃ a, _ from h); subst e1; rfl
  | obj ks vs as bs => obtain ⟨p, a1, a2, a3, kvs, xs, ys, e1, e2⟩ := (show ∃ p a1 a2 a3 kvs xs ys, _ from h); subst e1; rfl
noncomputable def gIsN : D → D → Option DV
  | d, .non => some (.val (.bl (isNon d)))
  | _, _ => none
theorem cmp_is : CmpD X .Is gIsN := ⟨_, op_isN, by
  intro E σ H δ Ω x y d1 d2 z Q R r1 r2 hz h
  unfold gIsN at hz
  split at hz
  · cases hz
    exact ⟨r2, by rw [rB_non r1]; exact h.now R rfl⟩
  · cases hz⟩
section
variable {tg iter elt : Expr} {ifs : List Expr} {sc : Scope} {fi : DM (List D)} {t : D → DSt → Option DSt} {fc : DM Bool} {fe : DM DV} {N : List Str} {sel : List (Option Nat)}
theorem ps_lc {i : Nat} {x : Str} {pos' spos : Pos} (B : Blk X N sel sc) (hc : X.calm = true) (hN : X.N.Nodup) (hx : X.N[i]? = some x) (hl : X.env.scope.names.lookup x = some .local) (hi : PID X E tg iter fi)
    (hg : ∀ b, PGD (blk X N sc b) [] tg t) (ht : ∀ b, PTsD (blk X N sc b) ifs fc) (he : ∀ b, PED (blk X N sc b) EN elt fe)
    (hsw : swapsWith (.ListComp elt [⟨tg, iter, ifs, 0⟩] sc pos) (some (.Name x pos')) spos.line X.env = pure true)
    (hs : ∀ x, foldedSetIterable iter X.env x = pure x) : ∃ te, DE X.K E te (fLC fi t fc fe sel) ∧ PS X (.Assign [.Name x pos'] (.ListComp elt [⟨tg, iter, ifs, 0⟩] sc pos) spos) (tAsg te (gName i)) := by
  obtain ⟨wi, p, d⟩ := hi
  exact ⟨_, de_lc d (fun σ H δ Ω dd x δ' R r e Q h b => (hg b).choose_spec.2 σ H δ Ω dd x δ' R r e Q h) (fun σ H δ Ω R Q h b => (ht b).choose_spec.2 σ H δ Ω R Q h) (fun σ H δ Ω R Q h b => (he b).choose_spec.2 σ H δ Ω R Q h),
    ps_setC (g := fun v σ H Q => ∀ b, (hg b).choose v σ H Q) (ts := fun σ H Q => ∀ b, (ht b).choose σ H Q) (te := fun σ H Q => ∀ b, (he b).choose σ H Q) B hc hN hx hl p
    (fun b pins s σ H v u Q I r h => (hg b).choose_spec.1 pins s σ H v u Q I r (h b)) (fun b pins s σ H Q I h => (ht b).choose_spec.1 pins s σ H Q I (h b)) (fun b pins s σ H Q I h => (he b).choose_spec.1 pins s σ H Q I (h b)) hsw hs⟩
theorem psd_lc (i : Nat) {x : Str} {pos' spos : Pos} (hN : X.N.Nodup) (B : Blk X N sel sc) (hc : X.calm = true) (hi : PID X E tg iter fi)
    (hg : ∀ b, PGD (blk X N sc b) [] tg t) (ht : ∀ b, PTsD (blk X N sc b) ifs fc) (he : ∀ b, PED (blk X N sc b) EN elt fe)
    (hx : X.N[i]? = some x := by rfl) (hl : X.env.scope.names.lookup x = some .local := by rfl) (hm : i ∉ mp := by decide)
    (hsw : swapsWith (.ListComp elt [⟨tg, iter, ifs, 0⟩] sc pos) (some (.Name x pos')) spos.line X.env = pure true := by rfl)
    (hs : ∀ x, foldedSetIterable iter X.env x = pure x := by intro _; rfl) : PSD X E mp (.Assign [.Name x pos'] (.ListComp elt [⟨tg, iter, ifs, 0⟩] sc pos) spos) (fSet i (fLC fi t fc fe sel)) := by
  obtain ⟨te, d, p⟩ := ps_lc (i := i) B hc hN hx hl hi hg ht he hsw hs
  exact ⟨_, p, ds_set hm d⟩
theorem psd_lcO (i : Nat) {x : Str} {pos' spos : Pos} (hN : X.N.Nodup) (B : Blk X N sel sc) (hc : X.calm = true) (hi : PID X E tg iter fi)
    (hg : ∀ b, PGD (blk X N sc b) [] tg t) (ht : ∀ b, PTsD (blk X N sc b) ifs fc) (he : ∀ b, PED (blk X N sc b) EN elt fe)
    (hx : X.N[i]? = some x := by rfl) (hl : X.env.scope.names.lookup x = some .local := by rfl) (hm : i ∉ mp := by decide)
    (hsw : swapsWith (.ListComp elt [⟨tg, iter, ifs, 0⟩] sc pos) (some (.Name x pos')) spos.line X.env = pure true := by rfl)
    (hs : ∀ x, foldedSetIterable iter X.env x = pure x := by intro _; rfl) : PSD X E mp (.Assign [.Name x pos'] (.ListComp elt [⟨tg, iter, ifs, 0⟩] sc pos) spos) (fSetO i (fLC fi t fc fe sel)) := by
  obtain ⟨te, d, p⟩ := ps_lc (i := i) B hc hN hx hl hi hg ht he hsw hs
  exact ⟨_, p, ds_setO hm d⟩
end
noncomputable def fRev (i : Nat) : DM Fl := fun δ => match δ[i]? with
  | some (.ow ds) => .ok .nx (δ.set i (.ow ds.reverse))
  | _ => .un
noncomputable def fExt0 (i : Nat) (f : DM DV) : DM Fl := (fN f).bd fun a δ => match res δ a, δ[i]? with
  | some (.lst es), some (.ow ds) => if ds.length + es.length ≤ sizeLine then .ok .nx (δ.set i (.ow (ds ++ es))) else .un
  | _, _ => .un
noncomputable def fExtend (i : Nat) (f : DM DV) : DM Fl := fun δ => if isOw i δ then fExt0 i f δ else .un
noncomputable def fPutAt (i : Nat) (f2 f1 : DM DV) : DM Fl := (fN f2).bd fun a δ => if isOw i δ then ((fN f1).bd fun b δ => match a, res δ b, δ[i]? with
  | .val d, some (.int k), some (.ow ds) => (match ixN ds.length k with | some j => .ok .nx (δ.set i (.ow (ds.set j d))) | none => .un)
  | _, _, _ => .un) δ else .un
theorem psd_putat (i : Nat) {x : Str} {e1 e2 : Expr} {f1 f2 : DM DV} {p p2 : Pos} (h2 : PED X E e2 f2) (h1 : PED X E e1 f1) (hN : X.N[i]? = some x := by rfl) (hv : Vis X.env.scope x := by first | exact Or.inl rfl | exact Or.inr (Or.inl rfl) | exact Or.inr (Or.inr rfl))
    (hd : (x == ("__debug__" : Str)) = false := by decide) (hcd : (x == ("__classdict__" : Str)) = false := by decide)
    (ha : ∀ v, assign (.Subscript (.Name x p) e1 p2) X.env v = (do
      let ov ← holding [v] (eval (.Name x p) X.env)
      let iv ← holding [v, ov] (eval e1 X.env)
      standAt p2
      holding [v, ov, iv] (setItem ov iv v)
      release [v, ov, iv] []) := by intro _; rfl)
    (hs : swapsWithSole [.Subscript (.Name x p) e1 p2] e2 pos.line X.env = pure false := by rfl) (hw : swappedStores [.Subscript (.Name x p) e1 p2] e2 X.env = pure none := by rfl)
    (hh : (assignEach [.Subscript (.Name x p) e1 p2] X.env).map (·.2) = [assign (.Subscript (.Name x p) e1 p2) X.env] := by rfl) :
    PSD X E mp (.Assign [.Subscript (.Name x p) e1 p2] e2 pos) (fPutAt i f2 f1) := by
  obtain ⟨t2, q2, d2⟩ := h2
  obtain ⟨t1, q1, d1⟩ := h1
  refine ⟨_, ps_asg q2 (pg_sub (pv i hN hv hd hcd) q1 set_list ha) hs hw hh, ?_⟩
  intro σ H δ Ω R B h
  refine d2.use R h fun a y δ1 H1 Ω1 ex s1 R1 r1 w1 => ?_
  (try dsimp only at w1)
  split at w1
  · rename_i ho
    unfold isOw at ho
    split at ho
    · rename_i ds hds
      obtain ⟨ad, vs, e1, e2, e3, e4⟩ := R1.sl i _ hds
      refine ⟨.ref ad, join_some e1, d1.use R1 w1 fun b z δ2 H2 Ω2 ex2 s2 R2 r2 w2 => ?_⟩
      (try dsimp only at w2)
      split at w2
      · rename_i dd k es hb hds2
        split at w2
        · rename_i j hj
          obtain ⟨a', ws, u1, u2, u3, u4⟩ := R2.sl i _ hds2
          have ea : a' = ad := by
            have z := (join_some u1).symm.trans (join_some e1)
            injection z with z
            injection z with z
            injection z
          subst ea
          have rk : z = .int k := r2.res R2 hb
          subst rk
          have ry : Rep X.K H2 Ω2 dd y := Rep.ext ex2 r1
          refine ⟨a', ws, k, j, rfl, rfl, u2, by rw [← u4.length]; exact hj, ?_⟩
          exact w2 _ Ω2 (.putOw (k := i + 1) ⟨_, u2, rfl⟩ u3) σ (R2.putOw (join_some u1) ⟨_, u2, rfl⟩ u3 (Reps.set ry j u4)) fun _ _ => rfl
        · exact w2.elim
      · exact w2.elim
    · cases ho
  · exact w1.elim
noncomputable def enumD (lo : Int) : List D → List D
  | [] => []
  | d :: ds => .tup [.int lo, d] :: enumD (lo + 1) ds
noncomputable def gEnumItems : D → Option (List D)
  | .lst ds => some (enumD 1 ds)
  | _ => none
noncomputable def fEnum (f : DM DV) : DM (List D) := fIt f gEnumItems
theorem ev_enum {δ δ1 : DSt} {aa : DV} {ds : List D} (h : f δ = .ok aa δ1) (e : norm aa = .val (.lst ds)) : fEnum f δ = .ok (enumD 1 ds) δ1 := by unfold fEnum fIt fN DM.bd DM.ret; simp only [h, e]; rfl
theorem ev_putat {i : Nat} {f1 f2 : DM DV} {δ δ1 δ2 : DSt} {a2 b2 : DV} {d : D} {es ds : List D} {k : Int} {j : Nat} (h : f2 δ = .ok a2 δ1) (e : norm a2 = .val d) (ho : δ1[i]? = some (.ow es)) (h1 : f1 δ1 = .ok b2 δ2) (e1 : res δ2 (norm b2) = some (.int k)) (e2 : δ2[i]? = some (.ow ds))
    (hj : ixN ds.length k = some j) : fPutAt i f2 f1 δ = .ok .nx (δ2.set i (.ow (ds.set j d))) := by
  unfold fPutAt fN DM.bd DM.ret
  simp only [h, e]
  have : isOw i δ1 = true := by unfold isOw; rw [ho]
  simp only [this, if_true, h1, e1, e2, hj]
theorem ev_extend {i : Nat} {δ δ1 : DSt} {aa : DV} {es ds ds0 : List D} (ho : δ[i]? = some (.ow ds0)) (h : f δ = .ok aa δ1) (e : res δ1 (norm aa) = some (.lst es)) (e2 : δ1[i]? = some (.ow ds)) (hl : ds.length + es.length ≤ sizeLine) : fExtend i f δ = .ok .nx (δ1.set i (.ow (ds ++ es))) := by
  unfold fExtend
  have : isOw i δ = true := by unfold isOw; rw [ho]
  simp only [this, if_true]
  unfold fExt0 fN DM.bd DM.ret
  simp only [h, e, e2, hl, if_true]
theorem ev_rev {i : Nat} {δ : DSt} {ds : List D} (h : δ[i]? = some (.ow ds)) : fRev i δ = .ok .nx (δ.set i (.ow ds.reverse)) := by unfold fRev; rw [h]
end
end DL
namespace DL
open PySem PySem.Spec PyProof.Rows L2
inductive Rn where
  | un | ok (d : D) (mss : List (List D)) | own (ds : List D) (mss : List (List D))
noncomputable def putO : DSt → List Nat → List (List D) → DSt
  | δ, i :: is, ms :: mss => putO (δ.set i (.ow ms)) is mss
  | δ, _, _ => δ
noncomputable def getO (δ : DSt) : List Nat → Option (List (List D))
  | [] => some []
  | i :: is => match δ[i]?, getO δ is with
    | some (.ow ms), some r => some (ms :: r)
    | _, _ => none
theorem putO_len : ∀ (is : List Nat) (δ : DSt) (mss : List (List D)), (putO δ is mss).length = δ.length
  | [], _, _ => rfl
  | _ :: _, _, [] => rfl
  | i :: is, δ, ms :: mss => by
    show (putO (δ.set i (.ow ms)) is mss).length = _
    rw [putO_len is, List.length_set]
theorem putO_get : ∀ (is : List Nat) (δ : DSt) (mss : List (List D)) {j : Nat} {s : Sl}, mss.length = is.length → (putO δ is mss)[j]? = some s →
    (∃ (k : Nat) (ms : List D), is[k]? = some j ∧ mss[k]? = some ms ∧ s = .ow ms) ∨ (j ∉ is ∧ δ[j]? = some s)
  | [], δ, mss, j, s, hl, h => by
    right
    cases mss with
    | nil => exact ⟨by simp, h⟩
    | cons _ _ => simp at hl
  | i :: is, δ, mss, j, s, hl, h => by
    cases mss with
    | nil => simp at hl
    | cons ms mss =>
      have h : (putO (δ.set i (.ow ms)) is mss)[j]? = some s := h
      rcases putO_get is (δ.set i (.ow ms)) mss (by simpa using hl) h with ⟨k, m, e1, e2, e3⟩ | ⟨e1, e2⟩
      · exact .inl ⟨k + 1, m, by simpa using e1, by simpa using e2, e3⟩
      · by_cases hj : j = i
        · subst hj
          left
          have hlt : j < δ.length := by
            have := (List.getElem?_eq_some_iff.mp e2).1
            rwa [List.length_set] at this
          rw [List.getElem?_set_self hlt] at e2
          cases e2
          exact ⟨0, ms, rfl, rfl, rfl⟩
        · rw [List.getElem?_set_ne (Ne.symm hj)] at e2
          exact .inr ⟨fun z => (List.mem_cons.mp z).elim hj e1, e2⟩
section
variable {K : PySem.W.Frag} {E : Str → Hp → Prop} {H H' : Hp} {Ω Ω' : Om} {σ : St} {δ : DSt} {pr : Nat → Addr} {jf : Nat → Nat}
noncomputable def Lists (K : PySem.W.Frag) (H : Hp) (Ω : Om) (pr : Nat → Addr) : List Nat → List (List D) → Prop
  | [], mss => mss = []
  | i :: is, mss => ∃ ms r, mss = ms :: r ∧ (∃ xs, H (pr i) = some (.lst xs) ∧ Ω (pr i) = some (i + 2) ∧ Reps K H Ω ms xs) ∧ Lists K H Ω pr is r
theorem Lists.len : ∀ {is : List Nat} {mss : List (List D)}, Lists K H Ω pr is mss → mss.length = is.length
  | [], _, h => by rw [(show _ = [] from h)]; rfl
  | i :: is, _, h => by
    obtain ⟨ms, r, rfl, _, h2⟩ := h
    rw [List.length_cons, List.length_cons, Lists.len h2]
theorem Lists.at : ∀ {is : List Nat} {mss : List (List D)} {k i : Nat} {ms : List D}, Lists K H Ω pr is mss → is[k]? = some i → mss[k]? = some ms → ∃ xs, H (pr i) = some (.lst xs) ∧ Ω (pr i) = some (i + 2) ∧ Reps K H Ω ms xs
  | [], _, _, _, _, _, e, _ => by simp at e
  | a :: is, _, 0, i, ms, h, e, e2 => by
    obtain ⟨m, r, rfl, h1, h2⟩ := h
    have : a = i := by simpa using e
    subst this
    have : m = ms := by simpa using e2
    subst this
    exact h1
  | a :: is, _, k + 1, i, ms, h, e, e2 => by
    obtain ⟨m, r, rfl, h1, h2⟩ := h
    exact Lists.at (k := k) h2 (by simpa using e) (by simpa using e2)
theorem Lists.mem {is : List Nat} {mss : List (List D)} {i : Nat} (h : Lists K H Ω pr is mss) (hi : i ∈ is) : ∃ xs, H (pr i) = some (.lst xs) ∧ Ω (pr i) = some (i + 2) := by
  obtain ⟨k, hk, e⟩ := List.mem_iff_getElem.mp hi
  have hm : k < mss.length := by rw [h.len]; exact hk
  obtain ⟨xs, h1, h2, _⟩ := h.at (k := k) (i := i) (ms := mss[k]) (by rw [List.getElem?_eq_getElem hk, e]) (List.getElem?_eq_getElem hm)
  exact ⟨xs, h1, h2⟩
noncomputable def RnQ (K : PySem.W.Frag) (H : Hp) (Ω : Om) (pr : Nat → Addr) (is : List Nat) (Q : VK) : Rn → Prop
  | .un => False
  | .ok d mss => ∀ H' Ω', Ext H Ω H' Ω' → Trk H' Ω' → Lists K H' Ω' pr is mss → ∀ v, Rep K H' Ω' d v → Q v H'
  | .own ds mss => ∀ H' Ω', Ext H Ω H' Ω' → Trk H' Ω' → Lists K H' Ω' pr is mss → ∀ v, RepDV K H' Ω' [] (.own ds) v → Q v H'
noncomputable def RepsY (K : PySem.W.Frag) (H : Hp) (Ω : Om) (is : List Nat) (ds : List D) (vs : List V) : Prop := ds.length = vs.length ∧ ∀ j d, j ∉ is → ds[j]? = some d → ∃ v, vs[j]? = some v ∧ Rep K H Ω d v
noncomputable def spN (K : PySem.W.Frag) (n : Nat) (is : List Nat) (M : List D → List (List D) → Rn) : Sp := fun vs H Q _ => vs.length = n ∧ ∃ Ω ds pr mss, Trk H Ω ∧ (∀ i ∈ is, vs[i]? = some (.ref (pr i))) ∧ Lists K H Ω pr is mss ∧ (∀ b k, Ω b = some k → k = 0 ∨ ∃ i ∈ is, b = pr i) ∧ RepsY K H Ω is ds vs ∧ RnQ K H Ω pr is Q (M ds mss)
noncomputable def startN (n : Nat) (is : List Nat) (ds : List D) (mss : List (List D)) : DSt := putO (ds.map .sh ++ List.replicate (n - ds.length) .no) is mss
noncomputable def runN (body : DM Fl) (n : Nat) (is : List Nat) (ds : List D) (mss : List (List D)) : Rn := match body (startN n is ds mss) with
  | .ok (.rt d) δ' => (match getO δ' is with | some mss' => .ok d mss' | _ => .un)
  | .ok (.rto es) δ' => (match getO δ' is with | some mss' => .own es mss' | _ => .un)
  | .ok .nx δ' => (match getO δ' is with | some mss' => .ok .non mss' | _ => .un)
  | _ => .un
theorem RepS.startN {N : List Str} {is : List Nat} {ds : List D} {mss : List (List D)} {vs : List V} (hr : RepsY K H Ω is ds vs) (ht : Trk H Ω) (hv : ∀ i ∈ is, vs[i]? = some (.ref (pr i))) (hm : Lists K H Ω pr is mss) :
    RepS K H Ω (L2.start N vs) (DL.startN N.length is ds mss) := by
  obtain ⟨hl, hr⟩ := hr
  have hget : ∀ j, j < vs.length → (L2.start N vs)[j]? = (vs[j]?).map some := fun j hj => by
    unfold L2.start
    rw [List.getElem?_append_left (by rw [List.length_map]; exact hj), List.getElem?_map]
  refine ⟨by unfold L2.start DL.startN; rw [putO_len, List.length_append, List.length_append, List.length_map, List.length_map, List.length_replicate, List.length_replicate, hl], fun j s h => ?_, ht⟩
  unfold DL.startN at h
  rcases putO_get is _ mss hm.len h with ⟨k, ms, e1, e2, rfl⟩ | ⟨e1, h⟩
  · have hj : j ∈ is := List.mem_of_getElem? e1
    have hv' := hv j hj
    obtain ⟨xs, h1, h2, h3⟩ := hm.at e1 e2
    have hjv : j < vs.length := (List.getElem?_eq_some_iff.mp hv').1
    exact ⟨pr j, xs, by rw [hget j hjv, hv']; rfl, h1, h2, h3⟩
  · by_cases hj : j < ds.length
    · rw [List.getElem?_append_left (by rw [List.length_map]; exact hj), List.getElem?_map] at h
      obtain ⟨d, hd⟩ : ∃ d, ds[j]? = some d := ⟨ds[j], List.getElem?_eq_getElem hj⟩
      rw [hd] at h
      cases h
      obtain ⟨v, hv', r⟩ := hr j d e1 hd
      exact ⟨v, by rw [hget j (by omega), hv']; rfl, r⟩
    · rw [List.getElem?_append_right (by rw [List.length_map]; omega), List.getElem?_replicate] at h
      split at h
      · cases h; trivial
      · cases h
theorem RepS.lists {is : List Nat} {mss : List (List D)} (R : RepS K H Ω σ δ) (hσ : ∀ i ∈ is, σ[i]? = some (some (.ref (pr i)))) (h : getO δ is = some mss) : Lists K H Ω pr is mss := by
  induction is generalizing mss with
  | nil => cases h; rfl
  | cons i is ih =>
    unfold getO at h
    split at h
    · rename_i ms r e1 e2
      cases h
      obtain ⟨b, ys, q1, q2, q3, q4⟩ := R.sl i _ e1
      rw [hσ i List.mem_cons_self] at q1
      cases q1
      exact ⟨ms, r, rfl, ⟨ys, q2, q3, q4⟩, ih (fun j hj => hσ j (List.mem_cons_of_mem _ hj)) e2⟩
    · cases h
end
section
variable {P : Program} {w : World} {K : PySem.W.Frag} {mg : Str → Option Value} {base : Heap}
theorem fnN (is : List Nat) {x qual : Str} {st : Stmt} {f : Addr} {fd : FuncData} {N ps : List Str} {k : Nat} {body : DM Fl} (F : Fun K x qual st f fd) (S : FnScope N ps (defScope st))
    (hb : ∀ (cdv : Value) (A : Around) (outer : List Env) (s : Shared) (H : Hp) (E : XK), Room k (A.deeper (envOfC qual (defScope st) s.heap.objs.size f cdv)) →
      PSsD (cxOf CX0 P w K mg base N qual (defScope st) f cdv A outer s H E).nox EN is (defBody st) body) : FnOk P w K mg base CX0 (k + 1) f fd ps (spN K ps.length is (runN body N.length is)) := by
  refine F.ok S (fun vs H Q E h => h.1) (fun cdv A outer s H vs Q E hr h => ?_)
  obtain ⟨ts, p, d⟩ := hb cdv A outer s H E hr
  refine ⟨ts, p, ?_⟩
  obtain ⟨hl, Ω, ds, pr, mss, ht, hv, hm, h0, hr, hq⟩ := h
  have hs : ∀ i ∈ is, (L2.start N vs)[i]? = some (some (.ref (pr i))) := fun i hi => by
    have := hv i hi
    have hlt := (List.getElem?_eq_some_iff.mp this).1
    unfold L2.start
    rw [List.getElem?_append_left (by rw [List.length_map]; exact hlt), List.getElem?_map, this]; rfl
  refine d (L2.start N vs) H _ Ω (RepS.startN hr ht hv hm) _ ?_
  unfold runN at hq
  have fin : ∀ {H' : Hp} {Ω' : Om} {σ' : St} {δ' : DSt} {mss' : List (List D)}, RepS K H' Ω' σ' δ' → (∀ j ∈ is, σ'[j]? = (L2.start N vs)[j]?) → getO δ' is = some mss' → Lists K H' Ω' pr is mss' :=
    fun R' m' e' => R'.lists (fun i hi => by rw [m' i hi]; exact hs i hi) e'
  cases e : body (DL.startN N.length is ds mss) with
  | un => rw [e] at hq; exact hq
  | er c => rw [e] at hq; exact hq.elim
  | ok fl δ' =>
    rw [e] at hq
    cases fl with
    | nx =>
      dsimp only at hq
      cases q : getO δ' is with
      | none => rw [q] at hq; exact hq.elim
      | some mss' =>
        rw [q] at hq
        exact fun H' Ω' ex σ' R' m' => hq H' Ω' ex R'.trk (fin R' m' q) .non rfl
    | bk => exact hq.elim
    | ct => exact hq.elim
    | rt d =>
      dsimp only at hq
      cases q : getO δ' is with
      | none => rw [q] at hq; exact hq.elim
      | some mss' =>
        rw [q] at hq
        exact fun H' Ω' ex σ' R' m' v rv => hq H' Ω' ex R'.trk (fin R' m' q) v rv
    | rto es =>
      dsimp only at hq
      cases q : getO δ' is with
      | none => rw [q] at hq; exact hq.elim
      | some mss' =>
        rw [q] at hq
        exact fun H' Ω' ex σ' R' m' v rv => hq H' Ω' ex R'.trk (fin R' m' q) v rv
end
noncomputable def slotsOf (as : List DV) : List Nat → Option (List Nat)
  | [] => some []
  | i :: is => match as[i]?, slotsOf as is with
    | some (.slot j), some r => some (j :: r)
    | _, _ => none
noncomputable def valsY (is : List Nat) : Nat → List DV → Option (List D)
  | _, [] => some []
  | k, .val d :: r => (valsY is (k + 1) r).map fun ds => d :: ds
  | k, _ :: r => if k ∈ is then (valsY is (k + 1) r).map fun ds => .non :: ds else none
noncomputable def rnRs : Rn → DSt → List Nat → Rs DV
  | .un, _, _ => .un
  | .ok d mss, δ, js => .ok (.val d) (putO δ js mss)
  | .own es mss, δ, js => .ok (.own es) (putO δ js mss)
noncomputable def fCallN (n : Nat) (is : List Nat) (fa : DM (List DV)) (M : List D → List (List D) → Rn) : DM DV := fa.bd fun as δ => match slotsOf as is with
  | some js => if js.Nodup then (match getO δ js, valsY is 0 as with
    | some mss, some ds => if ds.length = n then rnRs (M ds mss) δ js else .un
    | _, _ => .un) else .un
  | none => .un
theorem slots_map {as : List DV} : ∀ {is js : List Nat}, slotsOf as is = some js → ∀ k i : Nat, is[k]? = some i → ∃ j : Nat, js[k]? = some j ∧ as[i]? = some (DV.slot j)
  | [], _, _, _, _, e => by simp at e
  | a :: is, js, h, k, i, e => by
    unfold slotsOf at h
    split at h
    · rename_i j r e1 e2
      cases h
      cases k with
      | zero =>
        have : a = i := by simpa using e
        subst this
        exact ⟨j, rfl, e1⟩
      | succ k =>
        obtain ⟨j', z1, z2⟩ := slots_map e2 k i (by simpa using e)
        exact ⟨j', by simpa using z1, z2⟩
    · cases h
theorem slots_len {as : List DV} : ∀ {is js : List Nat}, slotsOf as is = some js → js.length = is.length
  | [], _, h => by cases h; rfl
  | a :: is, js, h => by
    unfold slotsOf at h
    split at h
    · rename_i j r e1 e2
      cases h
      rw [List.length_cons, List.length_cons, slots_len e2]
    · cases h
theorem getO_at {δ : DSt} : ∀ {js : List Nat} {mss : List (List D)}, getO δ js = some mss → ∀ k j : Nat, js[k]? = some j → ∃ ms : List D, mss[k]? = some ms ∧ δ[j]? = some (Sl.ow ms)
  | [], _, _, _, _, e => by simp at e
  | a :: js, mss, h, k, j, e => by
    unfold getO at h
    split at h
    · rename_i ms r e1 e2
      cases h
      cases k with
      | zero =>
        have : a = j := by simpa using e
        subst this
        exact ⟨ms, rfl, e1⟩
      | succ k =>
        obtain ⟨m, z1, z2⟩ := getO_at e2 k j (by simpa using e)
        exact ⟨m, by simpa using z1, z2⟩
    · cases h
section
variable {K : PySem.W.Frag} {E : Str → Hp → Prop} {H H' : Hp} {Ω Ω' : Om} {σ : St} {δ : DSt} {pr : Nat → Addr} {jf : Nat → Nat} {is : List Nat}
theorem RepDVs.get : ∀ {as : List DV} {vs : List V} {i : Nat} {a : DV}, RepDVs K H Ω σ as vs → as[i]? = some a → ∃ v, vs[i]? = some v ∧ RepDV K H Ω σ a v
  | [], _, _, _, _, e => by simp at e
  | b :: r, _, 0, a, h, e => by
    obtain ⟨v, q, e1, e2, e3⟩ := h
    subst e1
    have : b = a := by simpa using e
    subst this
    exact ⟨v, rfl, e2⟩
  | _ :: r, _, i + 1, a, h, e => by
    obtain ⟨v, q, e1, e2, e3⟩ := h
    subst e1
    obtain ⟨w, q1, q2⟩ := RepDVs.get (i := i) e3 (by simpa using e)
    exact ⟨w, by simpa using q1, q2⟩
theorem valsY_rep : ∀ {as : List DV} {vs : List V} {ds : List D} {k : Nat}, RepDVs K H Ω σ as vs → valsY is k as = some ds → ds.length = vs.length ∧ ∀ j d, k + j ∉ is → ds[j]? = some d → ∃ v, vs[j]? = some v ∧ Rep K H Ω d v
  | [], _, _, _, h, e => by
    cases e
    cases (show _ = [] from h)
    exact ⟨rfl, fun j d _ q => by simp at q⟩
  | a :: r, _, ds, k, h, e => by
    obtain ⟨v, q, e1, e2, e3⟩ := h
    subst e1
    have key : ∀ (d0 : D) (ds' : List D), valsY is (k + 1) r = some ds' → ds = d0 :: ds' → (k ∉ is → Rep K H Ω d0 v) → ds.length = (v :: q).length ∧ ∀ j d, k + j ∉ is → ds[j]? = some d → ∃ v', (v :: q)[j]? = some v' ∧ Rep K H Ω d v' := by
      intro d0 ds' h1 h2 h3
      subst h2
      obtain ⟨l, f⟩ := valsY_rep e3 h1
      refine ⟨by rw [List.length_cons, List.length_cons, l], fun j d hj hd => ?_⟩
      cases j with
      | zero =>
        have : d0 = d := by simpa using hd
        subst this
        exact ⟨v, rfl, h3 (by simpa using hj)⟩
      | succ j =>
        obtain ⟨v', q1, q2⟩ := f j d (by rw [show k + 1 + j = k + (j + 1) by omega]; exact hj) (by simpa using hd)
        exact ⟨v', by simpa using q1, q2⟩
    cases a with
    | val d0 =>
      unfold valsY at e
      obtain ⟨ds', h1, h2⟩ := Option.map_eq_some_iff.mp e
      exact key d0 ds' h1 h2.symm fun _ => e2
    | fld _ _ =>
      unfold valsY at e
      split at e
      · rename_i hk
        obtain ⟨ds', h1, h2⟩ := Option.map_eq_some_iff.mp e
        exact key .non ds' h1 h2.symm fun z => absurd hk z
      · cases e
    | slot j =>
      unfold valsY at e
      split at e
      · rename_i hk
        obtain ⟨ds', h1, h2⟩ := Option.map_eq_some_iff.mp e
        exact key .non ds' h1 h2.symm fun z => absurd hk z
      · cases e
    | own es =>
      unfold valsY at e
      split at e
      · rename_i hk
        obtain ⟨ds', h1, h2⟩ := Option.map_eq_some_iff.mp e
        exact key .non ds' h1 h2.symm fun z => absurd hk z
      · cases e
noncomputable def lentN (Ω : Om) (pr : Nat → Addr) (is : List Nat) : Om := fun b => match is.find? (fun i => decide (pr i = b)) with | some i => some (i + 2) | none => under Ω b
noncomputable def homeN (Ω Ω' : Om) (pr : Nat → Addr) (jf : Nat → Nat) (is : List Nat) : Om := fun b => match is.find? (fun i => decide (pr i = b)) with | some i => some (jf i + 2) | none => back Ω Ω' b
noncomputable def Inj (pr : Nat → Addr) (is : List Nat) : Prop := ∀ i ∈ is, ∀ i' ∈ is, pr i = pr i' → i = i'
theorem find_mem (hi : Inj pr is) {i : Nat} (h : i ∈ is) : is.find? (fun j => decide (pr j = pr i)) = some i := by
  cases e : is.find? (fun j => decide (pr j = pr i)) with
  | none => exact absurd (decide_eq_true rfl) (List.find?_eq_none.mp e i h)
  | some j =>
    have h1 := List.mem_of_find?_eq_some e
    have h2 : pr j = pr i := by simpa using List.find?_some e
    rw [hi j h1 i h h2]
theorem find_ne {b : Addr} (h : ∀ i ∈ is, pr i ≠ b) : is.find? (fun i => decide (pr i = b)) = none := List.find?_eq_none.mpr fun i hi z => h i hi (of_decide_eq_true z)
theorem lentN_mem (hi : Inj pr is) {i : Nat} (h : i ∈ is) : lentN Ω pr is (pr i) = some (i + 2) := by unfold lentN; rw [find_mem hi h]
theorem lentN_ne {b : Addr} (h : ∀ i ∈ is, pr i ≠ b) : lentN Ω pr is b = under Ω b := by unfold lentN; rw [find_ne h]
theorem homeN_mem (hi : Inj pr is) {i : Nat} (h : i ∈ is) : homeN Ω Ω' pr jf is (pr i) = some (jf i + 2) := by unfold homeN; rw [find_mem hi h]
theorem homeN_ne {b : Addr} (h : ∀ i ∈ is, pr i ≠ b) : homeN Ω Ω' pr jf is b = back Ω Ω' b := by unfold homeN; rw [find_ne h]
theorem lentN_none (hp : ∀ i ∈ is, Ω (pr i) ≠ none) (b : Addr) (h : Ω b = none) : lentN Ω pr is b = none := by
  rw [lentN_ne (fun i hi z => hp i hi (by rw [z]; exact h))]; exact under_none h
theorem homeN_none (hp : ∀ i ∈ is, Ω' (pr i) ≠ none) (b : Addr) (h : Ω' b = none) : homeN Ω Ω' pr jf is b = none := by
  rw [homeN_ne (fun i hi z => hp i hi (by rw [z]; exact h))]; exact back_none b h
theorem mem_or (b : Addr) : (∃ i ∈ is, pr i = b) ∨ ∀ i ∈ is, pr i ≠ b := by
  by_cases h : ∃ i ∈ is, pr i = b
  · exact .inl h
  · exact .inr fun i hi z => h ⟨i, hi, z⟩
theorem Ext.homeN (hi : Inj pr is) (hp : ∀ i ∈ is, Ω (pr i) = some (jf i + 2) ∧ ∃ xs, H (pr i) = some (.lst xs)) (e : Ext H (lentN Ω pr is) H' Ω') : Ext H Ω H' (DL.homeN Ω Ω' pr jf is) where
  keep := fun b o q h => by
    rcases mem_or (pr := pr) (is := is) b with ⟨i, him, rfl⟩ | hb
    · obtain ⟨h1, xs, h2⟩ := hp i him
      rw [h2] at q
      cases q
      rcases h with h | h | h
      · cases h
      · rw [h1] at h; cases h
      · rw [h1] at h; cases h
    · refine e.keep b o q (h.imp_right fun z => ?_)
      rw [lentN_ne hb]
      exact z.imp under_none under_some
  new := fun b q h => by
    have hb : ∀ i ∈ is, pr i ≠ b := fun i him z => by have := (hp i him).1; rw [z, q] at this; cases this
    rw [homeN_ne hb]
    exact back_none b (e.new b (by rw [lentN_ne hb]; exact under_none q) h)
  fr := fun b => by
    rcases mem_or (pr := pr) (is := is) b with ⟨i, him, rfl⟩ | hb
    · rw [(hp i him).1, homeN_mem hi him]
    · rw [homeN_ne hb]
      constructor
      · intro h
        have := (e.fr b).mp (by rw [lentN_ne hb]; exact under_some h)
        rw [back_zero this]
        exact h
      · intro h
        unfold DL.back at h
        split at h
        · exact h
        · cases h
        · cases h
  live := e.live
theorem RepS.homeN {mss mss' : List (List D)} (R : RepS K H Ω σ δ) (hi : Inj pr is) (hp : ∀ i ∈ is, Ω (pr i) = some (jf i + 2) ∧ ∃ xs, H (pr i) = some (.lst xs)) (hσ : ∀ i ∈ is, σ[jf i]? = some (some (.ref (pr i)))) (e : Ext H (lentN Ω pr is) H' Ω') (ht : Trk H' Ω')
    (hm : Lists K H' Ω' pr is mss') : RepS K H' (DL.homeN Ω Ω' pr jf is) σ (putO δ (is.map jf) mss') := by
  have ex := Ext.homeN hi hp e
  have hn : ∀ i ∈ is, Ω' (pr i) ≠ none := fun i him => by obtain ⟨xs, _, h2⟩ := hm.mem him; rw [h2]; exact Option.some_ne_none _
  refine ⟨by rw [putO_len]; exact R.len, fun j s h => ?_, fun a k q => ?_⟩
  · rcases putO_get (is.map jf) δ mss' (by rw [List.length_map]; exact hm.len) h with ⟨k, ms, e1, e2, rfl⟩ | ⟨e1, h⟩
    · rw [List.getElem?_map] at e1
      obtain ⟨i, z1, rfl⟩ := Option.map_eq_some_iff.mp e1
      have him : i ∈ is := List.mem_of_getElem? z1
      obtain ⟨xs, h1, h2, h3⟩ := hm.at z1 e2
      exact ⟨pr i, xs, by rw [hσ i him]; rfl, h1, homeN_mem hi him, h3.less (homeN_none hn)⟩
    · refine (R.sl j s h).mv (fun _ _ => .ext ex) (fun _ _ => .ext ex) fun a ws w3 w2 => ?_
      have ha : ∀ i ∈ is, pr i ≠ a := by
        rintro i him rfl
        rw [(hp i him).1] at w3
        exact e1 (List.mem_map.mpr ⟨i, him, by have := Option.some.inj w3; omega⟩)
      have h0 : lentN Ω pr is a = some 0 := by rw [lentN_ne ha]; exact under_some w3
      refine ⟨e.keep a _ w2 (.inr (.inr h0)), ?_⟩
      rw [homeN_ne ha, back_zero ((e.fr a).mp h0)]
      exact w3
  · rcases mem_or (pr := pr) (is := is) a with ⟨i, him, rfl⟩ | ha
    · obtain ⟨xs, h1, _⟩ := hm.mem him; exact ⟨_, h1, rfl⟩
    · rw [homeN_ne ha] at q
      unfold DL.back at q
      split at q
      · rename_i z; exact ht a _ z
      · rename_i z; exact ht a _ z
      · cases q
theorem map_inj {f : Nat → Nat} : ∀ {l : List Nat}, (l.map f).Nodup → ∀ a ∈ l, ∀ b ∈ l, f a = f b → a = b
  | [], _, a, ha, _, _, _ => nomatch ha
  | x :: l, h, a, ha, b, hb, e => by
    rw [List.map_cons, List.nodup_cons] at h
    rcases List.mem_cons.mp ha with z | ha' <;> rcases List.mem_cons.mp hb with z' | hb'
    · rw [z, z']
    · subst z; exact absurd (List.mem_map.mpr ⟨b, hb', e.symm⟩) h.1
    · subst z'; exact absurd (List.mem_map.mpr ⟨a, ha', e⟩) h.1
    · exact map_inj h.2 a ha' b hb' e
noncomputable def jOf (as : List DV) (i : Nat) : Nat := match as[i]? with | some (.slot j) => j | _ => 0
noncomputable def aOf (σ : St) (as : List DV) (i : Nat) : Addr := match σ[jOf as i]? with | some (some (.ref p)) => p | _ => 0
theorem slots_eq {as : List DV} {is js : List Nat} (h : slotsOf as is = some js) : js = is.map (jOf as) := by
  apply List.ext_getElem?
  intro k
  rw [List.getElem?_map]
  cases e : is[k]? with
  | none =>
    rw [List.getElem?_eq_none_iff] at e
    rw [List.getElem?_eq_none (by rw [slots_len h]; exact e)]; rfl
  | some i =>
    obtain ⟨j, z1, z2⟩ := slots_map h k i e
    rw [z1]
    show some j = some (jOf as i)
    unfold jOf
    rw [z2]
theorem lists_of {pr : Nat → Addr} {as : List DV} : ∀ {is : List Nat} {mss : List (List D)}, getO δ (is.map (jOf as)) = some mss → (∀ i ∈ is, ∀ ms, δ[jOf as i]? = some (.ow ms) → ∃ xs, H (pr i) = some (.lst xs) ∧ Ω (pr i) = some (i + 2) ∧ Reps K H Ω ms xs) → Lists K H Ω pr is mss
  | [], _, h, _ => by cases h; rfl
  | i :: is, mss, h, f => by
    rw [List.map_cons] at h
    unfold getO at h
    split at h
    · rename_i ms r e1 e2
      cases h
      exact ⟨ms, r, rfl, f i List.mem_cons_self ms e1, lists_of e2 fun i' hi' => f i' (List.mem_cons_of_mem _ hi')⟩
    · cases h
theorem de_callN {n : Nat} {M : List D → List (List D) → Rn} {Ex : XK} {t : TA} {fa : DM (List DV)} (ha : DA K E t fa) : DE K E (tCall (spN K n is M) [] Ex t) (fCallN n is fa M) := by
  intro σ H δ Ω R Q h
  refine ha.use R h fun as vs δ1 H1 Ω1 _ s1 R1 r1 h1 => ?_
  (try dsimp only at h1)
  split at h1
  · rename_i js hjs
    split at h1
    · rename_i hnd
      split at h1
      · rename_i mss ds hms hds
        split at h1
        · rename_i hn
          have hje := slots_eq hjs
          subst hje
          obtain ⟨hl, hrep⟩ := valsY_rep r1 hds
          have all : ∀ i ∈ is, as[i]? = some (.slot (jOf as i)) ∧ ∃ ms xs, δ1[jOf as i]? = some (.ow ms) ∧ σ[jOf as i]? = some (some (.ref (aOf σ as i))) ∧ H1 (aOf σ as i) = some (.lst xs) ∧ Ω1 (aOf σ as i) = some (jOf as i + 2) ∧ Reps K H1 Ω1 ms xs := by
            intro i hi
            obtain ⟨k, hk, e⟩ := List.mem_iff_getElem.mp hi
            obtain ⟨j, z1, z2⟩ := slots_map hjs k i (by rw [List.getElem?_eq_getElem hk, e])
            have hj : jOf as i = j := by unfold jOf; rw [z2]
            obtain ⟨ms, z3, z4⟩ := getO_at hms k j z1
            obtain ⟨p, xs, q1, q2, q3, q4⟩ := R1.sl j _ z4
            have q1 := join_some q1
            have hp : aOf σ as i = p := by unfold aOf; rw [hj, q1]
            rw [hj, hp]
            exact ⟨z2, ms, xs, z4, q1, q2, q3, q4⟩
          have hinj : Inj (aOf σ as) is := fun i hi i' hi' e => by
            obtain ⟨_, _, _, _, _, _, o1, _⟩ := all i hi
            obtain ⟨_, _, _, _, _, _, o2, _⟩ := all i' hi'
            rw [e, o2] at o1
            exact (map_inj hnd i' hi' i hi (by have := Option.some.inj o1; omega)).symm
          have hp : ∀ i ∈ is, Ω1 (aOf σ as i) = some (jOf as i + 2) ∧ ∃ xs, H1 (aOf σ as i) = some (.lst xs) := fun i hi => by
            obtain ⟨_, _, xs, _, _, o1, o2, _⟩ := all i hi
            exact ⟨o2, xs, o1⟩
          have hσ : ∀ i ∈ is, σ[jOf as i]? = some (some (.ref (aOf σ as i))) := fun i hi => by
            obtain ⟨_, _, _, _, o1, _⟩ := all i hi
            exact o1
          have hnn : ∀ i ∈ is, Ω1 (aOf σ as i) ≠ none := fun i hi => by rw [(hp i hi).1]; exact Option.some_ne_none _
          show spN K n is M (vs ++ []) H1 Q Ex
          rw [List.append_nil]
          refine ⟨by rw [← hl]; exact hn, lentN Ω1 (aOf σ as) is, ds, aOf σ as, mss, fun b k q => ?_, fun i hi => ?_, ?_, fun b k q => ?_, ⟨hl, fun k d hk hd => ?_⟩, ?_⟩
          · rcases mem_or (pr := aOf σ as) (is := is) b with ⟨i, hi, rfl⟩ | hb
            · obtain ⟨xs, q2⟩ := (hp i hi).2; exact ⟨_, q2, rfl⟩
            · rw [lentN_ne hb] at q; exact trk_under R1.trk b k q
          · obtain ⟨o1, _⟩ := all i hi
            obtain ⟨v, hv, rv⟩ := r1.get o1
            have rv : σ[jOf as i]? = some (some v) := rv
            rw [hσ i hi] at rv
            cases rv
            exact hv
          · refine lists_of hms fun i hi ms hms' => ?_
            obtain ⟨_, ms2, xs, o1, _, o2, o3, o4⟩ := all i hi
            rw [hms'] at o1
            cases o1
            exact ⟨xs, o2, lentN_mem hinj hi, o4.less (lentN_none hnn)⟩
          · rcases mem_or (pr := aOf σ as) (is := is) b with ⟨i, hi, rfl⟩ | hb
            · exact .inr ⟨i, hi, rfl⟩
            · rw [lentN_ne hb] at q; exact .inl (under_zero b k q)
          · obtain ⟨v', z1, z2⟩ := hrep k d (by rw [Nat.zero_add]; exact hk) hd
            exact ⟨v', z1, z2.less (lentN_none hnn)⟩
          · have fin : ∀ {H' : Hp} {Ω' : Om} {mss' : List (List D)}, Ext H1 (lentN Ω1 (aOf σ as) is) H' Ω' → Trk H' Ω' → Lists K H' Ω' (aOf σ as) is mss' → RepS K H' (DL.homeN Ω1 Ω' (aOf σ as) (jOf as) is) σ (putO δ1 (is.map (jOf as)) mss') := fun e' t' z => RepS.homeN (mss := mss) R1 hinj hp hσ e' t' z
            have hn' : ∀ {H' : Hp} {Ω' : Om} {mss' : List (List D)}, Lists K H' Ω' (aOf σ as) is mss' → ∀ i ∈ is, Ω' (aOf σ as i) ≠ none := fun z i hi => by obtain ⟨_, _, h2⟩ := z.mem hi; rw [h2]; exact Option.some_ne_none _
            cases q5 : M ds mss with
            | un => rw [q5] at h1; exact h1
            | ok d mss' =>
              rw [q5] at h1
              exact fun H' Ω' e' t' z v rv => h1 H' _ (Ext.homeN hinj hp e') (fin e' t' z) v (rv.less (homeN_none (hn' z)))
            | own es mss' =>
              rw [q5] at h1
              intro H' Ω' e' t' z v ⟨a, ws, w1, w2, w3, w4⟩
              have hap : ∀ i ∈ is, aOf σ as i ≠ a := by
                rintro i hi rfl
                obtain ⟨_, _, h2⟩ := z.mem hi
                rw [h2] at w3
                cases w3
              exact h1 H' _ (Ext.homeN hinj hp e') (fin e' t' z) v ⟨a, ws, w1, w2, by rw [homeN_ne hap]; exact back_one w3, w4.less (homeN_none (hn' z))⟩
        · exact h1.elim
      · exact h1.elim
    · exact h1.elim
  · exact h1.elim
end
section
variable {X : Cx} {E : Str → Hp → Prop} {pos : Pos} {e : Expr}
structure DefN (P : Program) (w : World) (K : PySem.W.Frag) (mg : Str → Option Value) (base : Heap) (k : Nat) (x : Str) (n : Nat) (is : List Nat) (M : List D → List (List D) → Rn) : Prop where
  ex : ∃ (f : Addr) (fd : FuncData) (ps : List Str), FnOk P w K mg base CX0 k f fd ps (spN K n is M) ∧ mg x = some (.ref f) ∧ PySem.W.keepIn K (.ref f) = true ∧ Binds K fd ps []
theorem ped_callN {k n : Nat} {is : List Nat} {x : Str} {M : List D → List (List D) → Rn} {p : Pos} {es : List Expr} {r : DM (List DV)} (F : DefN X.prog X.w X.K X.mg X.base k x n is M) (hr : Room k X.A) (ha : PAD X EN (e :: es) r) (hg : Gl X x := by rfl)
    (hdb : (x == ("__debug__" : Str)) = false := by decide) (he : starEach (e :: es) X.env = (false, eval e X.env) :: starEach es X.env := by rfl) (hpl : (backTo pos (starEach es X.env)).any (·.1) = false := by rfl) :
    PED X EN (.Call (.Name x p) (e :: es) [] pos) (fCallN n is r M) := by
  obtain ⟨fa, fd, ps, F, hm, kp, b⟩ := F.ex
  obtain ⟨t, q, d⟩ := ha
  exact ⟨_, pe_call F hr hg hm kp b .nil pass0 q hdb he hpl, de_callN d⟩
end
section
variable {δ δ1 : DSt} {d : D} {ds es : List D} {mss mss' : List (List D)} {is js : List Nat} {n : Nat} {as : List DV} {fa : DM (List DV)} {body : DM Fl}
theorem ev_runNrt (h : body (startN n is ds mss) = .ok (.rt d) δ1) (e : getO δ1 is = some mss') : runN body n is ds mss = .ok d mss' := by unfold runN; simp only [h, e]
theorem ev_runNnx (h : body (startN n is ds mss) = .ok .nx δ1) (e : getO δ1 is = some mss') : runN body n is ds mss = .ok .non mss' := by unfold runN; simp only [h, e]
theorem rnRs_ok : rnRs (.ok d mss) δ js = .ok (.val d) (putO δ js mss) := rfl
theorem rnRs_own : rnRs (.own es mss) δ js = .ok (.own es) (putO δ js mss) := rfl
theorem ev_callN {M : List D → List (List D) → Rn} {rn : Rn} {Z : Rs DV} (h : fa δ = .ok as δ1) (e : slotsOf as is = some js) (hn : js.Nodup) (e2 : getO δ1 js = some mss) (e3 : valsY is 0 as = some ds) (hl : ds.length = n) (hM : M ds mss = rn) (hr : rnRs rn δ1 js = Z) : fCallN n is fa M δ = Z := by
  unfold fCallN DM.bd
  simp only [h, e, hn, e2, e3, hl, if_true, hM]
  exact hr
end
end DL
namespace L2
open PySem PySem.Spec PyProof.Rows
section
variable {κ : Type} [DecidableEq κ]
noncomputable def valV (kvs : List (κ × V)) (k : κ) : Option V := (kvs.find? fun kv => decide (kv.1 = k)).map (·.2)
noncomputable def putK (kvs : List (κ × V)) (k : κ) (v : V) : List (κ × V) :=
  if (kvs.any fun kv => decide (kv.1 = k)) = true then kvs.map (fun kv => if kv.1 = k then (kv.1, v) else kv) else kvs ++ [(k, v)]
noncomputable def dropK (kvs : List (κ × V)) (k : κ) : List (κ × V) := kvs.filter fun kv => decide (kv.1 ≠ k)
theorem valV_pos {p : κ × V} {r : List (κ × V)} {k : κ} (e : p.1 = k) : valV (p :: r) k = some p.2 := by simp [valV, List.find?_cons, e]
theorem valV_neg {p : κ × V} {r : List (κ × V)} {k : κ} (e : ¬ p.1 = k) : valV (p :: r) k = valV r k := by simp [valV, List.find?_cons, e]
theorem valV_any (k : κ) : ∀ kvs : List (κ × V), (kvs.any fun kv => decide (kv.1 = k)) = (valV kvs k).isSome
  | [] => rfl
  | p :: r => by
    rw [List.any_cons]
    by_cases e : p.1 = k
    · simp only [valV_pos e, decide_eq_true e, Bool.true_or, Option.isSome_some]
    · rw [valV_neg e, decide_eq_false e, Bool.false_or]; exact valV_any k r
theorem length_putK (kvs : List (κ × V)) (k : κ) (v : V) : (putK kvs k v).length ≤ kvs.length + 1 := by
  unfold putK
  split
  · rw [List.length_map]; omega
  · rw [List.length_append, List.length_cons, List.length_nil]; omega
theorem RelO.isSome_eq {o : Option V} {u : Option Value} (r : RelO o u) : o.isSome = u.isSome := by
  cases o with
  | none => cases u with
    | none => rfl
    | some _ => exact (show False from r).elim
  | some _ => cases u with
    | none => exact (show False from r).elim
    | some _ => rfl
theorem RelO.getD {o : Option V} {u : Option Value} {d : V} {d' : Value} (r : RelO o u) (rd : RelV d d') : RelV (o.getD d) (u.getD d') := by
  cases o with
  | none => cases u with
    | none => exact rd
    | some _ => exact (show False from r).elim
  | some _ => cases u with
    | none => exact (show False from r).elim
    | some _ => exact r
theorem KV.val {kvs : List (κ × V)} {vs : List (κ × Value)} (r : KV kvs vs) (k : κ) : RelO (valV kvs k) (valueAt vs k) := by
  unfold KV at r
  induction r with
  | nil => exact True.intro
  | @cons p q ps qs h t ih =>
    obtain ⟨h1, h2⟩ := h
    by_cases e : p.1 = k
    · have e' : q.1 = k := h1.symm.trans e
      have b : valueAt (q :: qs) k = some q.2 := by simp [valueAt, List.find?_cons, e']
      rw [valV_pos e, b]; exact h2
    · have e' : ¬ q.1 = k := fun z => e (h1.trans z)
      have b : valueAt (q :: qs) k = valueAt qs k := by simp [valueAt, List.find?_cons, e']
      rw [valV_neg e, b]; exact ih
theorem KV.any {kvs : List (κ × V)} {vs : List (κ × Value)} (r : KV kvs vs) (k : κ) : (kvs.any fun kv => decide (kv.1 = k)) = vs.any fun kv => decide (kv.1 = k) := by
  unfold KV at r
  induction r with
  | nil => rfl
  | cons h t ih => rw [List.any_cons, List.any_cons, ih, h.1]
theorem KV.repl {kvs : List (κ × V)} {vs : List (κ × Value)} (r : KV kvs vs) (k : κ) {y : V} {u : Value} (ry : RelV y u) :
    KV (kvs.map fun kv => if kv.1 = k then (kv.1, y) else kv) (vs.map fun kv => if kv.1 = k then (kv.1, u) else kv) := by
  unfold KV at r ⊢
  induction r with
  | nil => exact .nil
  | @cons p q ps qs h t ih =>
    rw [List.map_cons, List.map_cons]
    refine .cons ?_ ih
    obtain ⟨h1, h2⟩ := h
    by_cases e : p.1 = k
    · rw [if_pos e, if_pos (h1.symm.trans e)]; exact ⟨h1, ry⟩
    · rw [if_neg e, if_neg (fun z => e (h1.trans z))]; exact ⟨h1, h2⟩
theorem KV.put {kvs : List (κ × V)} {vs : List (κ × Value)} (r : KV kvs vs) (k : κ) {y : V} {u : Value} (ry : RelV y u) : KV (putK kvs k y) (stored vs k u) := by
  unfold putK stored
  rw [r.any k]
  by_cases e : (vs.any fun kv => decide (kv.1 = k)) = true
  · rw [if_pos e, if_pos e]; exact r.repl k ry
  · rw [if_neg e, if_neg e]; exact Paired.snoc r ⟨rfl, ry⟩
theorem KV.drop {kvs : List (κ × V)} {vs : List (κ × Value)} (r : KV kvs vs) (k : κ) : KV (dropK kvs k) (without vs k) := by
  unfold KV at r ⊢
  unfold dropK without
  induction r with
  | nil => exact .nil
  | @cons p q ps qs h t ih =>
    obtain ⟨h1, h2⟩ := h
    rw [List.filter_cons, List.filter_cons]
    by_cases e : p.1 = k
    · have a : ¬ decide (p.1 ≠ k) = true := by simp [e]
      have b : ¬ decide (q.1 ≠ k) = true := by simp [h1.symm.trans e]
      rw [if_neg a, if_neg b]; exact ih
    · have e' : ¬ q.1 = k := fun z => e (h1.trans z)
      have a : decide (p.1 ≠ k) = true := by simp [e]
      have b : decide (q.1 ≠ k) = true := by simp [e']
      rw [if_pos a, if_pos b]; exact .cons ⟨h1, h2⟩ ih
theorem KV.length {kvs : List (κ × V)} {vs : List (κ × Value)} (r : KV kvs vs) : kvs.length = vs.length := Paired.length r
end
theorem kV_is {P : Program} {w : World} {k : Key} {u : Value} (r : RelV (kV k) u) : (mixKind P w).is k u = true := by
  cases k with
  | inl i => obtain ⟨t, e⟩ := (show ∃ t, u = Value.int i t from r); subst e; exact mixKind_int P w i t
  | inr x => obtain ⟨t, e⟩ := (show ∃ t, u = Value.str x t from r); subst e; exact mixKind_str P w x t
theorem items_are {P : Program} {w : World} : ∀ {ks : List Key} {us : List Value}, Vals (ks.map kV) us → ItemsAre (mixKind P w) ks us
  | [], _, r => by rw [List.map_nil] at r; cases r; exact .nil
  | k :: ks, _, r => by
    rw [List.map_cons] at r
    cases r with
    | cons h t => exact .cons (kV_is h) (items_are t)
noncomputable abbrev KT (H : Hp) : List (List Key × V) → List (List Key × Addr × Value) → Prop := Paired fun p q => p.1 = q.1 ∧ H q.2.1 = some (.tup (p.1.map kV)) ∧ RelV p.2 q.2.2
theorem KT.val {H : Hp} {kvs : List (List Key × V)} {xs : List (List Key × Addr × Value)} (r : KT H kvs xs) (k : List Key) : RelO (valV kvs k) ((atKey xs k).map (·.2)) := by
  induction r with
  | nil => exact True.intro
  | @cons p q ps qs h t ih =>
    obtain ⟨h1, _, h2⟩ := h
    by_cases e : p.1 = k
    · have e' : q.1 = k := h1.symm.trans e
      have b : atKey (q :: qs) k = some q.2 := by simp [atKey, List.find?_cons, e']
      rw [valV_pos e, b]; exact h2
    · have e' : ¬ q.1 = k := fun z => e (h1.trans z)
      have b : atKey (q :: qs) k = atKey qs k := by simp [atKey, List.find?_cons, e']
      rw [valV_neg e, b]; exact ih
theorem KT.repl {H : Hp} {kvs : List (List Key × V)} {xs : List (List Key × Addr × Value)} (r : KT H kvs xs) (k : List Key) {y : V} {u : Value} (ry : RelV y u) :
    KT H (kvs.map fun kv => if kv.1 = k then (kv.1, y) else kv) (xs.map (putAt k u)) := by
  induction r with
  | nil => exact .nil
  | @cons p q ps qs h t ih =>
    rw [List.map_cons, List.map_cons]
    refine .cons ?_ ih
    obtain ⟨h1, h2, h3⟩ := h
    unfold putAt
    by_cases e : p.1 = k
    · rw [if_pos e, if_pos (h1.symm.trans e)]; exact ⟨h1, h2, ry⟩
    · rw [if_neg e, if_neg (fun z => e (h1.trans z))]; exact ⟨h1, h2, h3⟩
theorem KT.put {H : Hp} {kvs : List (List Key × V)} {xs : List (List Key × Addr × Value)} (r : KT H kvs xs) (k : List Key) {b : Addr} {y : V} {u : Value} (hb : H b = some (.tup (k.map kV))) (ry : RelV y u) :
    KT H (putK kvs k y) (storedH xs k b u) := by
  have e : (kvs.any fun kv => decide (kv.1 = k)) = (atKey xs k).isSome := by
    rw [valV_any, (r.val k).isSome_eq, Option.isSome_map]
  unfold putK storedH
  rw [e]
  by_cases q : (atKey xs k).isSome = true
  · rw [if_pos q, if_pos q]; exact r.repl k ry
  · rw [if_neg q, if_neg q]; exact Paired.snoc r ⟨rfl, hb, ry⟩
theorem KT.keeps {H H' : Hp} {kvs : List (List Key × V)} {xs : List (List Key × Addr × Value)} (r : KT H kvs xs) (ht : ∀ b ys, H b = some (.tup ys) → H' b = some (.tup ys)) : KT H' kvs xs :=
  Paired.mapP r fun _ _ z => ⟨z.1, ht _ _ z.2.1, z.2.2⟩
section
variable {P : Program} {w : World} {H : Hp} {h : Heap} {a : Addr}
theorem rd_of {u : HO} (ok : HOk P w H h) (e : Rd H a u) : ObjOk P w H h a u := e.ok ok
theorem dk_rd {kvs : List (Key × V)} (ok : HOk P w H h) (e : Rd H a (.dK kvs)) : kvs.length ≤ sizeLine ∧ (a == sysModules) = false ∧ ∃ vs, KV kvs vs ∧ h.DictOf (mixKind P w) a vs :=
  show ObjOk P w H h a (.dK kvs) from rd_of ok e
theorem dk_of {kvs : List (Key × V)} (ok : HOk P w H h) (e : H a = some (.dK kvs)) : kvs.length ≤ sizeLine ∧ (a == sysModules) = false ∧ ∃ vs, KV kvs vs ∧ h.DictOf (mixKind P w) a vs := dk_rd ok (.inl e)
theorem key_of {ks : List Key} (ok : HOk P w H h) (e : H a = some (.tup (ks.map kV))) : (tupleKind (mixKind P w)).is h ks a := by
  obtain ⟨_, its, r, o, h1, h2, n, h3⟩ := (show ObjOk P w H h a (.tup (ks.map kV)) from ok a _ e)
  exact ⟨o, its.toArray, n, h1, h2, h3, by simpa using items_are r⟩
theorem dt_rd {kvs : List (List Key × V)} (ok : HOk P w H h) (e : Rd H a (.dT kvs)) : kvs.length ≤ sizeLine ∧ (a == sysModules) = false ∧
    ∃ xs, KT H kvs xs ∧ h.DictOfH (tupleKind (mixKind P w)) a xs := by
  obtain ⟨z, y, xs, r, o, es, ep, h1, h2, h3, h4, h5⟩ := (show ObjOk P w H h a (.dT kvs) from rd_of ok e)
  refine ⟨z, y, xs, r, o, es, ep, h1, h2, h3, h4, fun x hx => ?_, h5⟩
  have all : ∀ {l : List (List Key × V)} {m : List (List Key × Addr × Value)}, KT H l m → ∀ x ∈ m, (tupleKind (mixKind P w)).is h x.1 x.2.1 := by
    intro l m q
    induction q with
    | nil => intro x hx; exact nomatch hx
    | @cons p q ps qs hq t ih =>
      intro x hx
      rcases List.mem_cons.mp hx with e | hx
      · subst e
        exact key_of ok (by rw [← hq.1]; exact hq.2.1)
      · exact ih x hx
  exact all r x hx
theorem dt_of {kvs : List (List Key × V)} (ok : HOk P w H h) (e : H a = some (.dT kvs)) : kvs.length ≤ sizeLine ∧ (a == sysModules) = false ∧
    ∃ xs, KT H kvs xs ∧ h.DictOfH (tupleKind (mixKind P w)) a xs := dt_rd ok (.inl e)
end
noncomputable def DGet (H : Hp) (a : Addr) (y : V) (r : Option V) : Prop :=
  (∃ kvs k, Rd H a (.dK kvs) ∧ y = kV k ∧ r = valV kvs k) ∨ ∃ kvs k b, Rd H a (.dT kvs) ∧ y = .ref b ∧ H b = some (.tup (k.map kV)) ∧ r = valV kvs k
noncomputable def DPut (H : Hp) (a : Addr) (y v : V) (H' : Hp) : Prop :=
  (∃ kvs k, H a = some (.dK kvs) ∧ y = kV k ∧ kvs.length < sizeLine ∧ H' = upd H a (.dK (putK kvs k v))) ∨
  ∃ kvs k b, H a = some (.dT kvs) ∧ y = .ref b ∧ H b = some (.tup (k.map kV)) ∧ kvs.length < sizeLine ∧ H' = upd H a (.dT (putK kvs k v))
theorem DGet.k {H : Hp} {a : Addr} {kvs : List (Key × V)} {k : Key} (e : H a = some (.dK kvs)) : DGet H a (kV k) (valV kvs k) := .inl ⟨kvs, k, .inl e, rfl, rfl⟩
theorem DGet.t {H : Hp} {a b : Addr} {kvs : List (List Key × V)} {k : List Key} (e : H a = some (.dT kvs)) (eb : H b = some (.tup (k.map kV))) : DGet H a (.ref b) (valV kvs k) := .inr ⟨kvs, k, b, .inl e, rfl, eb, rfl⟩
theorem DPut.k {H : Hp} {a : Addr} {kvs : List (Key × V)} {k : Key} {v : V} (e : H a = some (.dK kvs)) (hl : kvs.length < sizeLine) : DPut H a (kV k) v (upd H a (.dK (putK kvs k v))) := .inl ⟨kvs, k, e, rfl, hl, rfl⟩
theorem DPut.t {H : Hp} {a b : Addr} {kvs : List (List Key × V)} {k : List Key} {v : V} (e : H a = some (.dT kvs)) (eb : H b = some (.tup (k.map kV))) (hl : kvs.length < sizeLine) :
    DPut H a (.ref b) v (upd H a (.dT (putK kvs k v))) := .inr ⟨kvs, k, b, e, rfl, eb, hl, rfl⟩
section
variable {X : Cx} {pins : List (Addr × Obj)} {σ : St} {H : Hp} {s : Shared} {a : Addr} {y v : V} {u r : Value} {o : Option V} {A : Around} {E : Value → Shared → Prop}
theorem Inv.big (I : Inv X pins σ H s) : sysModules < s.heap.objs.size := by
  have h : mainGlobals < s.heap.objs.size := (I.mod.glob.keeps I.bk).lt
  exact Nat.lt_trans (by decide) h
theorem d_write {h' : Heap} {t' : Nat} {ob : HO} (I : Inv X pins σ H s) (mu : Mut (H a)) (hs : Heap.SameBut a s.heap h') (he : ∃ q, h'.get? a = some q) (new : ObjOk X.prog X.w (upd H a ob) h' a ob) :
    Inv X pins σ (upd H a ob) { s with heap := h', toks := t' } :=
  I.write (x := a) (e := a) mu (.inl rfl) (fun b q hb z => (hs.2 b hb).trans z) he new
theorem dk_new {P : Program} {w : World} {H' : Hp} {h' : Heap} {kvs : List (Key × V)} {vs : List (Key × Value)} (z : kvs.length ≤ sizeLine) (hd : (a == sysModules) = false) (rel : KV kvs vs) (dd : h'.DictOf (mixKind P w) a vs) :
    ObjOk P w H' h' a (.dK kvs) := ⟨z, hd, vs, rel, dd⟩
theorem d_setItem {H' : Hp} {Q : Unit → Shared → Prop} (hu : A.units + 1 < cLine) (I : Inv X pins σ H s) (g : DPut H a y v H') (ry : RelV y u) (rv : RelV v r) (h : ∀ s', Inv X pins σ H' s' → Q () s') :
    wpAny (model X.prog X.w) A (setItem (.ref a) u r) Q E s := by
  rcases g with ⟨kvs, k, e, ey, l, eH⟩ | ⟨kvs, k, b, e, ey, eb, l, eH⟩
  · subst ey eH
    obtain ⟨z, hd, vs, rel, dd⟩ := dk_of I.hok e
    have hz : vs.length ≤ sizeLine := by rw [← rel.length]; exact z
    have hl : (putK kvs k v).length ≤ sizeLine := by have := length_putK kvs k v; omega
    refine wpAny_setItem_pairs (hsz := hz) (kV_is ry) dd fun h' dd' hs => h _ ?_
    have he : ∃ q, h'.get? a = some q := let ⟨q, _, _, hq, _⟩ := dd'; ⟨q, hq⟩
    exact d_write I (by rw [e]; exact True.intro) hs he (dk_new hl hd (rel.put k rv) dd')
  · subst ey eH
    cases (show u = Value.ref b from ry)
    obtain ⟨z, hd, xs, rel, dd⟩ := dt_of I.hok e
    have hz : xs.length ≤ sizeLine := by rw [← Paired.length rel]; exact z
    have hl : (putK kvs k v).length ≤ sizeLine := by have := length_putK kvs k v; omega
    refine wpAny_setItem_heap (hsz := hz) (tupleKind_room_in1 hu) (key_of I.hok eb) dd fun h' dd' hs => h _ ?_
    obtain ⟨q, es, ep, hq, h2, h3, h4, _, h5⟩ := dd'
    refine d_write I (by rw [e]; exact True.intro) hs ⟨q, hq⟩ ⟨hl, hd, _, (rel.put k eb rv).keeps fun c ys ec => ?_, q, es, ep, hq, h2, h3, h4, h5⟩
    rw [upd_ne (ne_of ec e (fun z => nomatch z))]
    exact ec
end
section
variable {X : Cx} {pins : List (Addr × Obj)} {σ : St} {H : Hp} {s : Shared} {a : Addr} {kvs : List (Key × V)} {k : Key} {u : Value} {A : Around} {E : Value → Shared → Prop}
end
noncomputable def sDPut (td ty tv : TE) : TS := fun D σ H => tv σ H fun v H1 => td σ H1 fun x H2 => ty σ H2 fun y H3 => ∃ a H4, x = .ref a ∧ DPut H3 a y v H4 ∧ D.nx σ H4
section
variable {X : Cx} {o i e value : Expr} {pos pos' tpos : Pos} {td ty tv : TE}
theorem ps_dput (hu : X.A.units + 1 < cLine) (ho : PE X o td) (hi : PE X i ty) (hv : PE X value tv) (hs : swapsWith value (some (.Subscript o i pos')) pos.line X.env = pure false) :
    PS X (.Assign [.Subscript o i pos'] value pos) (sDPut td ty tv) := by
  intro pins s σ H D I h
  refine wpAny_Assign_Subscript (thn (hv pins s σ H _ I h) fun r s1 ⟨v, H1, I1, rv, q1⟩ => thn (ho pins s1 σ H1 _ I1 q1) fun u s2 ⟨x, H2, I2, rx, q2⟩ => thn (hi pins s2 σ H2 _ I2 q2) fun iv s3 ⟨y, H3, I3, ry, a, H4, ex, g, q3⟩ => ?_) hs
  subst ex
  obtain rfl : u = Value.ref a := rx
  exact d_setItem hu I3 g ry rv fun s4 I4 => ⟨σ, H4, I4, q3⟩
end
theorem dt_empty {P : Program} {w : World} {H : Hp} (h : Heap) (hb : sysModules < h.objs.size) : ObjOk P w H (h.push { cls := .type "dict", data := .dict #[] }) h.objs.size (.dT []) :=
  ⟨Nat.zero_le _, beq_eq_false_iff_ne.mpr (Ne.symm (Nat.ne_of_lt hb)), [], .nil, _, #[], 0, Heap.get?_push_size _ rfl, ⟨rfl, rfl, rfl⟩, rfl, rfl, List.nodup_nil⟩
noncomputable def tDNewT : TE := fun _ H Q => ∀ p, H p = none → Q (.ref p) (upd H p (.dT []))
section
variable {X : Cx} {pos : Pos}
theorem pe_dnewT : PE X (.Dict [] [] pos) tDNewT := fun pins s σ H Q I h =>
  wpAny_Dict_empty ⟨.ref s.heap.objs.size, _, I.laid (a := s.heap.objs.size) (o := .dT []) (t' := s.toks) (fun _ _ q => Heap.get?_push_of_some _ q) (Nat.le_refl _) (dt_empty s.heap I.big), rfl, h _ (I.hok.fresh (Nat.le_refl _))⟩
end
structure M1 (X : Cx) (o : Expr) (m : Str) (apos : Pos) (e : Expr) (cpos : Pos) : Prop where
  base : attributeBase o m X.env (eval o X.env) = eval o X.env
  few : ((backTo cpos (starEach [e] X.env)).all (fun x => !x.1) && (backToKw cpos (keywordEach [] X.env)).all (fun x => x.1.isSome)
    && decide (([e] : List Expr).length + ([] : List Keyword).length + (if ([] : List Keyword).isEmpty then 0 else 1) < 30)) = true
  line : (apos.endLine == cpos.line) = true
  trees : backTo cpos (starEach [e] X.env) = [(false, eval e X.env)]
structure M2 (X : Cx) (o : Expr) (m : Str) (apos : Pos) (e f : Expr) (cpos : Pos) : Prop where
  base : attributeBase o m X.env (eval o X.env) = eval o X.env
  few : ((backTo cpos (starEach [e, f] X.env)).all (fun x => !x.1) && (backToKw cpos (keywordEach [] X.env)).all (fun x => x.1.isSome)
    && decide (([e, f] : List Expr).length + ([] : List Keyword).length + (if ([] : List Keyword).isEmpty then 0 else 1) < 30)) = true
  line : (apos.endLine == cpos.line) = true
  trees : backTo cpos (starEach [e, f] X.env) = [(false, eval e X.env), (false, eval f X.env)]
noncomputable def IsD (H : Hp) (a : Addr) : Prop := (∃ kvs, Rd H a (.dK kvs)) ∨ ∃ kvs, Rd H a (.dT kvs)
theorem isD_at {X : Cx} {pins : List (Addr × Obj)} {σ : St} {H : Hp} {s : Shared} {a : Addr} (I : Inv X pins σ H s) (d : IsD H a) :
    s.TypeIs (.ref a) "dict" ∧ (∀ b, Value.ref a = .ref b → ∃ ob, s.heap.get? b = some ob ∧ ob.dict = none) ∧ (a == sysModules) = false := by
  rcases d with ⟨kvs, e⟩ | ⟨kvs, e⟩
  · obtain ⟨_, hd, vs, _, dd⟩ := dk_rd I.hok e
    refine ⟨dd.typeIs, fun b q => ?_, hd⟩
    cases q
    obtain ⟨ob, _, _, h1, h2, _⟩ := dd
    exact ⟨ob, h1, h2.2.1⟩
  · obtain ⟨_, hd, xs, _, dd⟩ := dt_rd I.hok e
    refine ⟨dd.typeIs, fun b q => ?_, hd⟩
    cases q
    obtain ⟨ob, _, _, h1, h2, _⟩ := dd
    exact ⟨ob, h1, h2.2.1⟩
section
variable {X : Cx} {pins : List (Addr × Obj)} {σ : St} {H : Hp} {s : Shared} {a : Addr} {y d : V} {u r : Value} {o : Option V} {A : Around} {E : Value → Shared → Prop}
theorem d_get2 {Q : Value → Shared → Prop} (hu : A.units + 1 < cLine) (I : Inv X pins σ H s) (g : DGet H a y o) (ry : RelV y u) (rd : RelV d r) (h : ∀ w' s', Inv X pins σ H s' → RelV (o.getD d) w' → Q w' s') :
    wpAny (model X.prog X.w) A (call (.builtin "dict.get") [.ref a, u, r]) Q E s := by
  rcases g with ⟨kvs, k, e, ey, l⟩ | ⟨kvs, k, b, e, ey, eb, l⟩
  · subst ey
    obtain ⟨z, hd, vs, rel, dd⟩ := dk_rd I.hok e
    refine call_meetsIn PySem.F.slot_dict_get dd.typeIs PySem.F.entry_dict_get (PySem.F.args_dict_get_3 _ _ _) (meets_dict_get_default (mixKind X.prog X.w) a (kV_is ry) hd r) ⟨_, dd.mapOf, h _ _ (I.tok _) ?_⟩
    rw [l]
    exact (rel.val k).getD rd
  · subst ey
    cases (show u = Value.ref b from ry)
    obtain ⟨z, hd, xs, rel, dd⟩ := dt_rd I.hok e
    refine call_meetsIn PySem.F.slot_dict_get dd.typeIs PySem.F.entry_dict_get (PySem.F.args_dict_get_3 _ _ _) (meetsH_dict_get_default (tupleKind (mixKind X.prog X.w)) a b hd r) ⟨tupleKind_room_in1 hu, k, xs, key_of I.hok eb, dd, h _ _ (I.tok _) ?_⟩
    rw [l]
    exact (rel.val k).getD rd
end
noncomputable def tDGet2 (td ty tx : TE) : TE := fun σ H Q => td σ H fun x H1 => ∃ a, x = .ref a ∧ IsD H1 a ∧ ty σ H1 fun y H2 => tx σ H2 fun z H3 => ∃ o, DGet H3 a y o ∧ Q (o.getD z) H3
section
variable {X : Cx} {o e f : Expr} {apos cpos : Pos} {td ty tx : TE}
theorem pe_dget2 (hu : X.A.units + 1 < cLine) (ho : PE X o td) (he : PE X e ty) (hf : PE X f tx) (m : M2 X o "get" apos e f cpos) : PE X (.Call (.Attribute o "get" apos) [e, f] [] cpos) (tDGet2 td ty tx) := by
  intro pins s σ H Q I h
  refine wpAny_Call_method m.base m.few m.line PySem.F.plainAttrs_dict PySem.F.slot_dict_get PySem.F.type_dict_get (thn (ho pins s σ H _ I h) fun u s1 ⟨x, H1, I1, rx, a, ex, d, q1⟩ => ?_)
  subst ex
  obtain rfl : u = Value.ref a := rx
  obtain ⟨t1, t2, _⟩ := isD_at I1 d
  refine ⟨t1, t2, ?_⟩
  rw [m.trees]
  refine Calls.callWith_builtin rfl (Calls.evalArgs_plain (Calls.spliced_cons (thn (he pins s1 σ H1 _ I1 q1) fun iv s2 ⟨y, H2, I2, ry, q2⟩ =>
    Calls.spliced_cons (thn (hf pins s2 σ H2 _ I2 q2) fun fv s3 ⟨z, H3, I3, rz, ov, g, q3⟩ => Calls.spliced_nil ?_))))
  exact d_get2 hu I3 g ry rz fun w' s4 I4 rw' => ⟨_, H3, I4, rw', q3⟩
end
end L2
namespace DL
open PySem PySem.Spec PyProof.Rows L2
section
variable {K : PySem.W.Frag} {E : Str → Hp → Prop} {H H1 H2 H' : Hp} {Ω Ω1 Ω2 Ω' : Om} {σ : St} {δ : DSt} {mp : List Nat}
theorem Ext.allocK {p : Addr} {o : HO} {k : Nat} (hp : H p = none) (trk : Trk H Ω) : Ext H Ω (upd H p o) (ownTo Ω p (k + 1)) where
  keep := fun b o' e _ => by rw [upd_ne (ne_of_none e hp)]; exact e
  new := fun b e h => by
    unfold ownTo
    rw [if_neg (fun z => h (by rw [z]; exact hp))]
    exact e
  fr := fun b => by
    unfold ownTo
    split
    · rename_i z
      subst z
      constructor
      · intro q
        obtain ⟨vs, e, _⟩ := trk _ _ q
        rw [hp] at e; cases e
      · intro q; cases q
    · exact Iff.rfl
  live := fun b e => by
    unfold upd at e
    split at e
    · cases e
    · exact e
theorem RepS.allocK {p : Addr} {o : HO} {k : Nat} (R : RepS K H Ω σ δ) (hp : H p = none) (ho : fixO o = false) : RepS K (upd H p o) (DL.ownTo Ω p (k + 1)) σ δ :=
  R.ext (.allocK hp R.trk) (fun b j u q1 q2 => by
    have : b ≠ p := ne_of_none q2 hp
    exact ⟨by rw [upd_ne this]; exact q2, by unfold DL.ownTo; rw [if_neg this]; exact q1⟩) fun a j q => by
    by_cases h : a = p
    · subst h; exact ⟨_, upd_same, ho⟩
    · unfold DL.ownTo at q
      rw [if_neg h] at q
      obtain ⟨vs, e, f⟩ := R.trk a j q
      exact ⟨vs, by rw [upd_ne h]; exact e, f⟩
theorem Ext.putK {p : Addr} {k : Nat} {o : HO} (hl : ∃ vs, H p = some vs ∧ fixO vs = false) (hp : Ω p = some (k + 1)) : Ext H Ω (upd H p o) Ω := .putOw hl hp
theorem RepS.putK {i : Nat} {p : Addr} {o : HO} {s : Sl} (R : RepS K H Ω σ δ) (hl : ∃ vs, H p = some vs ∧ fixO vs = false) (hp : Ω p = some (i + 2)) (ho : fixO o = false) (hs : RepSl K (upd H p o) Ω i s (σ[i]?).join) : RepS K (upd H p o) Ω σ (δ.set i s) := by
  refine ⟨by rw [List.length_set]; exact R.len, fun j s' h => ?_, fun a k q => ?_⟩
  · by_cases hj : i = j
    · subst hj
      have hl' : i < δ.length := by
        have := (List.getElem?_eq_some_iff.mp h).1
        rwa [List.length_set] at this
      rw [List.getElem?_set_self hl'] at h
      cases h
      exact hs
    · rw [List.getElem?_set_ne hj] at h
      have ex : Ext H Ω (upd H p o) Ω := .putK hl hp
      refine (R.sl j s' h).mv (fun _ _ => .ext ex) (fun _ _ => .ext ex) fun a ws e3 e2 => ?_
      have ha : a ≠ p := by
        rintro rfl
        rw [hp] at e3
        exact hj (by have := Option.some.inj e3; omega)
      exact ⟨by rw [upd_ne ha]; exact e2, e3⟩
  · by_cases ha : a = p
    · subst ha; exact ⟨_, upd_same, ho⟩
    · obtain ⟨ws, e, f⟩ := R.trk a k q
      exact ⟨ws, by rw [upd_ne ha]; exact e, f⟩
end
section
variable {X : Cx} {E : Str → Hp → Prop} {pos : Pos} {e e1 : Expr} {f f1 : DM DV} {mp : List Nat}
end
section
variable {i : Nat} {δ δ1 δ2 : DSt} {f f1 f2 : DM DV}
end
end DL
namespace DL
open PySem PySem.Spec PyProof.Rows L2
noncomputable def lab (Ω : Om) (S : List Addr) (k : Nat) : Om := fun b => if b ∈ S then some k else Ω b
section
variable {K : PySem.W.Frag} {E : Str → Hp → Prop} {H H1 H2 H' : Hp} {Ω Ω1 Ω2 Ω' : Om} {σ : St} {δ : DSt} {mp : List Nat} {k : Nat} {S : List Addr}
end
section
variable {X : Cx} {E : Str → Hp → Prop} {pos : Pos} {e e1 : Expr} {f f1 : DM DV} {mp : List Nat}
end
section
variable {i : Nat} {δ δ1 δ2 : DSt} {fi : DM (List D)} {f1 f2 : DM DV}
end
end DL
namespace L2
open PySem PySem.Spec PyProof.Rows
section
variable {X : Cx}
end
end L2
namespace DL
open PySem PySem.Spec PyProof.Rows L2
section
variable {X : Cx} {E : Str → Hp → Prop} {e : Expr} {f : DM DV} {pos : Pos}
noncomputable def imax (i j : Int) : Int := if j > i then j else i
noncomputable def gMax : List D → Option DV
  | [.int i, .int j] => some (.val (.int (imax i j)))
  | _ => none
theorem cb_max (hc : X.calm = true) : CallD X (.builtin "max") gMax := ⟨_, call_max2 hc, by
  intro E σ H δ Ω vs ds z Q R r hz h
  unfold gMax at hz
  split at hz
  · cases hz
    obtain ⟨v, v', e, rv, rv'⟩ := rBs_two r
    cases (show v = .int _ from rv)
    cases (show v' = .int _ from rv')
    exact ⟨_, _, e, h.now R rfl⟩
  · cases hz⟩
end
end DL
namespace L2
open PySem PySem.Spec PyProof.Rows PySem.W
theorem ObjOk.has {P : Program} {w : World} {H : Hp} {h : Heap} {a : Addr} {o : HO} (x : ObjOk P w H h a o) : ∃ u, h.get? a = some u := by
  cases o with
  | lst xs => obtain ⟨_, _, _, _, e⟩ := x; exact ⟨_, e⟩
  | tup xs => obtain ⟨_, _, _, _, e, _⟩ := x; exact ⟨_, e⟩
  | dK kvs => obtain ⟨_, _, _, _, o, _, _, e, _⟩ := x; exact ⟨_, e⟩
  | dT kvs => obtain ⟨_, _, _, _, o, _, _, e, _⟩ := x; exact ⟨_, e⟩
  | set S n => obtain ⟨o, _, _, _, e, _⟩ := x; exact ⟨_, e⟩
  | ins C dx fs => obtain ⟨_, _, _, e, _⟩ := x; exact ⟨_, e⟩
  | own y => obtain ⟨_, e⟩ := x; exact ⟨_, e⟩
  | xd fs => obtain ⟨_, ⟨_, _, _, e, _⟩, _⟩ := x; exact ⟨_, e⟩
  | rng lo hi => obtain ⟨_, _, _, e⟩ := x; exact ⟨_, e⟩
  | frz ob u => obtain ⟨e, _⟩ := x; exact ⟨_, e⟩
  | tbl ps => exact ⟨_, (show h.get? a = some _ from x)⟩
  | met f y => exact ⟨_, (show h.get? a = some _ from x)⟩
  | ext φ => obtain ⟨_, ⟨_, e⟩, _⟩ := x; exact ⟨_, e⟩
theorem HOk.none_of {P : Program} {w : World} {H : Hp} {h : Heap} {a : Addr} (x : HOk P w H h) (e : h.get? a = none) : H a = none := by
  cases q : H a with
  | none => rfl
  | some u => obtain ⟨o, z⟩ := (x a u q).has; rw [e] at z; cases z
noncomputable def Tr (g : Heap) (H : Hp) (a : Addr) (cls : Value) (h : Heap) : Prop :=
  g.get? a = none ∧ H a = none ∧ ∃ a0 oe vs T oT ts, h.get? a = some oe ∧ (oe.cls = cls ∧ vs[0]? = some a0) ∧ oe.data = .fields vs ∧ vs[1]? = some (.ref T) ∧ g.get? T = none ∧ H T = none ∧ T ≠ a ∧ h.get? T = some oT ∧ oT.data = .fields ts ∧ ts[3]? = some .none
noncomputable def Fly (P : Program) (w : World) : CXT := fun outer H s E e s' => ∃ a cls H', e = .ref a ∧ s'.os = s.os ∧ AllBare s'.gens ∧ Un (frs outer) [] H H' s.heap s'.heap ∧ HOk P w H' s'.heap ∧ Tr s.heap H' a cls s'.heap ∧ E cls none H'
section
variable {P : Program} {w : World} {K : PySem.W.Frag} {mg : Str → Option Value} {base : Heap} {N : List Str} {qual : Str} {scope : Scope} {f : Addr} {cd : Value} {A : Around} {outer : List Env} {s₀ : Shared} {H₀ : Hp} {E₀ : XK}
  {pins : List (Addr × Obj)} {σ : St} {H : Hp} {s : Shared}
theorem none_back {g h : Heap} {H H' : Hp} {fs : List Addr} {b : Addr} (u : Un fs [] H H' g h) (e : h.get? b = none) : g.get? b = none := by
  cases q : g.get? b with
  | none => rfl
  | some o => obtain ⟨o', z⟩ := u.there b o q (by simp); rw [e] at z; cases z
theorem fly_after (I : Inv (cxOf (Fly P w) P w K mg base N qual scope f cd A outer s₀ H₀ E₀) pins σ H s) {h' : Heap} {as : List Addr} {e : Addr} {cls a0 : Value} (ha : ∀ b ∈ as, s₀.heap.get? b = none ∧ H b = none) (he : e ∈ as)
    (L : Heap.LeftW (hideAll s.heap (as ++ frs (cxOf (Fly P w) P w K mg base N qual scope f cd A outer s₀ H₀ E₀).stack)) (cxOf (Fly P w) P w K mg base N qual scope f cd A outer s₀ H₀ E₀).stack e cls a0 s.heap h') (hE : E₀ cls none H) :
    Fly P w outer H₀ s₀ E₀ (.ref e) { s with heap := h' } := by
  obtain ⟨st, ff, tr, sl⟩ := L
  have hfr := I.stkFree
  have hsub : ∀ b ∈ frs outer, b ∈ frs (cxOf (Fly P w) P w K mg base N qual scope f cd A outer s₀ H₀ E₀).stack := fun b hb => by
    show b ∈ frs (envOfC qual scope s₀.heap.objs.size f cd :: outer)
    unfold frs at hb ⊢
    rw [List.filterMap_cons]
    exact List.mem_cons_of_mem _ hb
  have stay : ∀ b o, s.heap.get? b = some o → b ∉ as → b ∉ frs (cxOf (Fly P w) P w K mg base N qual scope f cd A outer s₀ H₀ E₀).stack → h'.get? b = some o := fun b o q n1 n2 =>
    st b o (hideAll_get _ q fun z => (List.mem_append.mp z).elim n1 n2)
  have old : ∀ b o, s₀.heap.get? b = some o → b ∉ as := fun b o q z => by rw [(ha b z).1] at q; cases q
  have notL : ∀ b o, s₀.heap.get? b = some o → b ∉ frs outer → b ∉ frs (cxOf (Fly P w) P w K mg base N qual scope f cd A outer s₀ H₀ E₀).stack := fun b o q n z => by
    have := I.stkSub b z
    rcases List.mem_cons.mp this with e' | e'
    · subst e'
      exact absurd (Heap.lt_size q) (Nat.not_lt.mpr I.ok.above)
    · exact n e'
  obtain ⟨oe, vs, T, oT, ts, t1, t2, t3, t4, t5, t6, t7, t8, t9⟩ := tr
  have hTf : T ∉ frs (cxOf (Fly P w) P w K mg base N qual scope f cd A outer s₀ H₀ E₀).stack := fun z => by
    obtain ⟨_, o, ho, hd⟩ := ff.mem z
    rw [t7] at ho
    cases ho
    exact hd _ t8
  have hT : s₀.heap.get? T = none ∧ H T = none := by
    by_cases hTa : T ∈ as
    · exact ha T hTa
    · have q : s.heap.get? T = none := by
        cases q : s.heap.get? T with
        | none => rfl
        | some o => rw [hideAll_get _ q (fun z => (List.mem_append.mp z).elim hTa hTf)] at t5; cases t5
      exact ⟨none_back I.base q, I.hok.none_of q⟩
  refine ⟨e, cls, H, rfl, I.os, I.bare, ⟨fun b o q n hb _ => ?_, fun b o q n hb _ => ?_, fun b o q n _ => ?_, fun b o q _ => ?_, I.base.tups, I.base.frzs, I.base.tbls⟩, fun b o q => ?_, ⟨(ha e he).1, (ha e he).2, a0, oe, vs, T, oT, ts, t1, t2, t3, t4, hT.1, hT.2, t6, t7, t8, t9⟩, hE⟩
  · exact stay b o (I.base.keep b o q n hb (by exact List.not_mem_nil)) (old b o q) (notL b o q hb)
  · obtain ⟨s1, q1⟩ := I.base.slot b o q n hb (by exact List.not_mem_nil)
    obtain ⟨_, o2, q2, q3⟩ := I.stack.mem (hsub b hb)
    rw [q1] at q2
    cases q2
    obtain ⟨s2, q4⟩ := sl b _ q1 q3
    exact ⟨s2, q4⟩
  · exact I.base.free b o q n (by exact List.not_mem_nil)
  · obtain ⟨o1, q1⟩ := I.base.there b o q (by exact List.not_mem_nil)
    by_cases hb : b ∈ frs (cxOf (Fly P w) P w K mg base N qual scope f cd A outer s₀ H₀ E₀).stack
    · obtain ⟨_, o2, q2, _⟩ := ff.mem hb
      exact ⟨o2, q2⟩
    · exact ⟨o1, stay b o1 q1 (old b o q) hb⟩
  · refine (I.hok b o q).stay (fun c u hc hu => ?_) (fun _ z => z) fun _ _ z => z
    have hc' : H c ≠ none := by
      rcases hc with z | z
      · rw [z, q]; exact Option.some_ne_none _
      · rw [z]; exact Option.some_ne_none _
    exact stay c u hu (fun z => hc' (ha c z).2) fun z => hc' (hfr c z)
theorem leave_first (I : Inv (cxOf (Fly P w) P w K mg base N qual scope f cd A outer s₀ H₀ E₀) pins σ H s) {h' : Heap} {e : Addr} {cls : Value} {vs : List Value} (hx : Heap.MadeExcOf s.heap h' e cls vs) (hE : E₀ cls none H) :
    (cxOf (Fly P w) P w K mg base N qual scope f cd A outer s₀ H₀ E₀).xe (.ref e) { s with heap := h' } := by
  have J : Inv (cxOf (Fly P w) P w K mg base N qual scope f cd A outer s₀ H₀ E₀) pins σ H { s with heap := h' } := I.kept (t' := s.toks) hx.keeps
  obtain ⟨t, he, _, _⟩ := hx.there
  have hf : (envOfC qual scope s₀.heap.objs.size f cd).frame = some s₀.heap.objs.size := rfl
  refine wpAny_leaving_firstW (base := hideAll h' ([e] ++ frs (cxOf (Fly P w) P w K mg base N qual scope f cd A outer s₀ H₀ E₀).stack)) J.ok.frames (funFrames_hide J.stack fun env hm b hb => List.mem_append_right _ (List.mem_filterMap.mpr ⟨env, hm, hb⟩)) hf he (fun b o q => of_hideAll _ q)
    (hideAll_none _ (by simp)) rfl rfl rfl fun h'' L => ?_
  exact fly_after (as := [e]) J (fun b hb => by rw [List.mem_singleton.mp hb]; exact ⟨none_back I.base hx.new, I.hok.none_of hx.new⟩) (by simp) L hE
theorem leave_next : Passes (Fly P w) (cxOf (Fly P w) P w K mg base N qual scope f cd A outer s₀ H₀ E₀) E₀ := by
  intro pins σ H s e s' I hq
  obtain ⟨a, cls, H', rfl, ho, hb, u, hok, ⟨f1, f2, a0, oe, vs, T, oT, ts, t1, t2, t3, t4, t5, t5', t6, t7, t8, t9⟩, hE'⟩ := hq
  have J : Inv (cxOf (Fly P w) P w K mg base N qual scope f cd A outer s₀ H₀ E₀) pins σ H' s' := I.call' (ch := []) ho u hok hb (fun b z => nomatch z)
  have hf : (envOfC qual scope s₀.heap.objs.size f cd).frame = some s₀.heap.objs.size := rfl
  have back : ∀ b, s.heap.get? b = none → s₀.heap.get? b = none := fun b q => none_back I.base q
  refine wpAny_leaving_nextW (base := hideAll s'.heap ([a, T] ++ frs (cxOf (Fly P w) P w K mg base N qual scope f cd A outer s₀ H₀ E₀).stack)) J.ok.frames (funFrames_hide J.stack fun env hm b hb => List.mem_append_right _ (List.mem_filterMap.mpr ⟨env, hm, hb⟩)) hf
    ⟨oe, vs, T, oT, ts, t1, t2, t3, t4, hideAll_none _ (by simp), t6, t7, t8, t9⟩ (fun b o q => of_hideAll _ q) (hideAll_none _ (by simp)) fun h'' L => ?_
  refine fly_after (as := [a, T]) J (fun b hb => ?_) (by simp) L hE'
  rcases List.mem_cons.mp hb with z | z
  · rw [z]; exact ⟨back a f1, f2⟩
  · rw [List.mem_singleton.mp z]; exact ⟨back T t5, t5'⟩
end
noncomputable def Thr (X : Cx) (E : XK) : Prop := ∀ (pins : List (Addr × Obj)) (σ : St) (H : Hp) (s : Shared) (h' : Heap) (e : Addr) (cls : Value) (vs : List Value), Inv X pins σ H s → Heap.MadeExcOf s.heap h' e cls vs → E cls none H → X.xe (.ref e) { s with heap := h' }
theorem thr_fly {P : Program} {w : World} {K : PySem.W.Frag} {mg : Str → Option Value} {base : Heap} {N : List Str} {qual : Str} {scope : Scope} {f : Addr} {cd : Value} {A : Around} {outer : List Env} {s₀ : Shared} {H₀ : Hp} {E₀ : XK} :
    Thr (cxOf (Fly P w) P w K mg base N qual scope f cd A outer s₀ H₀ E₀) E₀ := fun _ _ _ _ _ _ _ _ I hx hE => leave_first I hx hE
noncomputable abbrev bmV : List Value := [.type "ValueError", .type "Exception", .type "BaseException", .type "object"]
structure ExcC (K : PySem.W.Frag) (mg : Str → Option Value) (x : Str) (C : Addr) : Prop where
  g : mg x = some (.ref C)
  q : excIn K C bmV "ValueError.__new__" = true
theorem ExcC.own {K : PySem.W.Frag} {mg : Str → Option Value} {x : Str} {C : Addr} {h₀ : Heap} (c : ExcC K mg x C) (X : K.In h₀) : OwnCls x C bmV "ValueError.__new__" mg h₀ := by
  refine ⟨c.g, ?_⟩
  have q := c.q
  unfold excIn at q
  split at q
  · rename_i dd cd sl ho
    split at q
    · rename_i C' bm k0 k1 k2 k3 n k5 hm hs
      simp only [Bool.and_eq_true, beq_iff_eq, Bool.not_eq_true'] at q
      obtain ⟨⟨⟨⟨⟨rfl, rfl⟩, hdel⟩, ht⟩, hok⟩, hni⟩ := q
      obtain ⟨nm, bs, mro, ns, qn, hd, sn, sub, ab, col, del⟩ := cd
      dsimp only at hm hdel hok hni
      subst hm hdel
      have hsl : sl = #[k0, k1, k2, k3, some (.builtin "ValueError.__new__"), k5] := by
        obtain ⟨l⟩ := sl
        simp only at hs
        rw [hs]
      subst hsl
      exact ⟨bm, ns, nm, qn, bs, hd, sn, sub, ab, col, dd, k0, k1, k2, k3, k5, _, X _ _ ho, .of_isNs (isNs_of_in X hok), nsMap_none_of_in X hok hni, tail_of_in X ht⟩
    · cases q
  · cases q
noncomputable def tRaise (v : Value) (E : XK) (t : TA) : TS := fun _ σ H => t σ H fun vs H1 => vs.length ≤ sizeLine ∧ E v none H1
section
variable {X : Cx} {E : XK} {x : Str} {C : Addr} {np cpos pos : Pos} {e : Expr} {es : List Expr} {t : TA}
theorem ps_raise (hT : Thr X E) (hc : X.calm = true) (c : ExcC X.K X.mg x C) (hg : Gl X x) (ha : PA X (e :: es) t) (hdb : (x == ("__debug__" : Str)) = false := by decide)
    (he : starEach (e :: es) X.env = (false, eval e X.env) :: starEach es X.env := by rfl) (hpl : (backTo cpos (starEach es X.env)).any (·.1) = false := by rfl) :
    PS X (.Raise (some (.Call (.Name x np) (e :: es) [] cpos)) none pos) (tRaise (.ref C) E t) := by
  intro pins s σ H D I h
  obtain ⟨tl, N, nm, q, bs, hdct, sn, sub, ab, col, dd, k0, k1, k2, k3, k5, mN, hC, hN, hni, T⟩ := (c.own I.ok.mod.kin).obj
  refine wpAny_Raise_call_subT (C := C) (nm := nm) (q := q) (N := N) (bs := bs) (bm := tl) (hdct := hdct) (sn := sn) (sub := sub) (ab := ab) (col := col) (dd := dd) (k0 := k0) (k1 := k1) (k2 := k2) (k3 := k3) (k5 := k5)
    PySem.F.excBase_ValueError (mN := mN) (T.hasType PySem.F.excBase_ValueError.hasBase) (I.ok.hd hc) (by rw [he]; show (false || (backTo cpos (starEach es X.env)).any (·.1)) = false; rw [hpl]; rfl) hni (ld_glob I hg c.g ⟨rfl, ?_⟩ hdb)
  have h := ha cpos pins s σ H _ I h
  rw [he] at h ⊢
  exact Calls.evalArgs_plain (wpAny_mono h (fun us s₂ ⟨vs, H1, I1, r, hl, hE⟩ => ⟨rfl, by rw [← r.length]; exact hl, I1.bk _ _ hC, hN.keeps I1.bk, T.keeps I1.bk, fun h' e' hm => hT pins σ H1 s₂ h' e' _ _ I1 hm hE⟩) fun _ _ y => y)
end
end L2
namespace L2
open PySem PySem.Spec PyProof.Rows PySem.W
section
variable {X : Cx} {e : Expr} {es : List Expr} {R R' : St → Hp → Prop} {pos : Pos}
noncomputable def PX (X : Cx) (e : Expr) (R : St → Hp → Prop) : Prop := ∀ (pins : List (Addr × Obj)) (s : Shared) (σ : St) (H : Hp) (Q : Value → Shared → Prop), Inv X pins σ H s → R σ H → (∀ x t s', x.length ≤ 20000 → Inv X pins σ H s' → Q (.str x t) s') → wpAny (model X.prog X.w) X.A (eval e X.env) Q X.xe s
noncomputable def PXs (X : Cx) (es : List Expr) (R : St → Hp → Prop) : Prop := ∀ (pins : List (Addr × Obj)) (s : Shared) (σ : St) (H : Hp) (Q : Value → Shared → Prop) (out : Str) (k : Nat), Inv X pins σ H s → R σ H → out.length ≤ 20000 * k → k + es.length ≤ 100 → (∀ x t s', x.length ≤ 2000000 → Inv X pins σ H s' → Q (.str x t) s') →
  wpAny (model X.prog X.w) X.A (joinParts out (evalEach es X.env)) Q X.xe s
theorem px_const {x : Str} {j pos} (h : x.length ≤ 20000 := by decide +kernel) : PX X (.Constant (.str x) j pos) (fun _ _ => True) := by
  intro pins s σ H Q I _ hq
  refine thn (pe_str (X := X) pins s σ H (fun v H' => v = .str x ∧ H' = H) I ⟨rfl, rfl⟩) fun u s' ⟨v, H', I', r, e1, e2⟩ => ?_
  subst e1 e2
  obtain ⟨t, rfl⟩ := r
  exact hq x t s' h I'
theorem px_fmtI {te : TE} {a : Int} (he : PE X e te) (h : ∀ σ H Q, Q (.int a) H → te σ H Q) (hd : a.natAbs.log2 < 1920 := by decide) (hl : (toString a : Str).length ≤ 20000 := by decide +kernel) : PX X (.FormattedValue e (-1) none pos) (fun _ _ => True) := by
  intro pins s σ H Q I hR hq
  refine FormattedValue_plain (thn (he pins s σ H (fun v H' => H' = H ∧ v = .int a) I (h _ _ _ ⟨rfl, rfl⟩)) fun u s1 ⟨v, H', I', r, e1, e2⟩ => ?_)
  subst e1 e2
  obtain ⟨t, rfl⟩ := r
  exact wpAny_formatField_int hd (hq _ _ _ hl (I'.tok _))
theorem pxs_nil : PXs X [] (fun _ _ => True) := by
  intro pins s σ H Q out k I _ ho hk hq
  exact joinParts_nil (hq _ _ _ (by simp at hk; omega) (I.tok _)) (by simp at hk; unfold sizeLine; omega)
theorem pxs_cons (h : PX X e R) (hs : PXs X es R') (he : evalEach (e :: es) X.env = eval e X.env :: evalEach es X.env := by rfl) : PXs X (e :: es) (fun σ H => R σ H ∧ R' σ H) := by
  intro pins s σ H Q out k I hR ho hk hq
  rw [List.length_cons] at hk
  rw [he]
  refine joinParts_cons (h pins s σ H _ I hR.1 fun x t s' hx I' => ?_)
  have hl : (out ++ x).length = out.length + x.length := strLen_append ..
  refine ⟨by rw [hl]; unfold sizeLine; omega, ?_⟩
  exact hs pins s' σ H Q (out ++ x) (k + 1) I' hR.2 (by rw [hl]; omega) (by omega) hq
theorem pe_join {e' : Expr} (h : PXs X (e :: e' :: es) R) (hl : (e :: e' :: es).length ≤ 100 := by simp) : PE X (.JoinedStr (e :: e' :: es) pos) (fun σ H Q => R σ H ∧ ∀ x : Str, x.length ≤ 2000000 → Q (.str x) H) := by
  intro pins s σ H Q I ⟨hR, hq⟩
  exact JoinedStr_many (h pins s σ H _ Str.empty 0 I hR (by decide) (by omega) fun x t s' hx I' => ⟨.str x, H, I', ⟨t, rfl⟩, hq x hx⟩)
end
end L2
namespace L2
open PySem PySem.Spec PyProof.Rows PySem.W
section
variable {X : Cx} {pins : List (Addr × Obj)} {σ : St} {H H' : Hp} {s : Shared} {h' : Heap}
structure Off (X : Cx) (pins : List (Addr × Obj)) (b : Addr) : Prop where
  s0 : X.s₀.heap.get? b = none
  loc : b ≠ X.env.locals
  cell : ∀ x c, X.env.cells.lookup x = some c → c ≠ b
  pin : ∀ p ∈ X.pn ++ pins, p.1 ≠ b
theorem Off.of {b : Addr} (I : Inv X pins σ H s) (he : X.ex = []) (e : s.heap.get? b = none) : Off X pins b := by
  refine ⟨none_back (he ▸ I.base) e, ?_, ?_, ?_⟩
  · rintro rfl
    obtain ⟨m, ⟨o, _, _, ho, _⟩, _⟩ := I.loc
    rw [e] at ho; cases ho
  · rintro x c hc rfl
    obtain ⟨v, o, ho, _⟩ := I.cell x c hc
    rw [e] at ho; cases ho
  · rintro p hp rfl
    have := (I.pin p hp).1
    rw [e] at this; cases this
theorem Inv.stepO {ch : List Addr} (I : Inv X pins σ H s) (hch : ∀ b ∈ ch, Off X pins b)
    (keep : ∀ b o, b ≠ X.env.locals → b ∉ X.fs → b ∉ ch → s.heap.get? b = some o → H b = none → h'.get? b = some o)
    (slot : ∀ b o, b ≠ X.env.locals → b ∈ X.fs → b ∉ ch → s.heap.get? b = some o → H b = none → ∃ sl, h'.get? b = some { o with slots := sl })
    (there : ∀ b o, b ∉ ch → s.heap.get? b = some o → ∃ o', h'.get? b = some o')
    (ns : ∀ m, s.heap.Ns X.env.locals m → h'.Ns X.env.locals m) (hok : HOk X.prog X.w H h') : Inv X pins σ H { s with heap := h' } := by
  have neL : ∀ b o, X.s₀.heap.get? b = some o → b ≠ X.env.locals := fun b o e => Nat.ne_of_lt (Nat.lt_of_lt_of_le (Heap.lt_size e) I.ok.above)
  have neC : ∀ b o, X.s₀.heap.get? b = some o → b ∉ ch := fun b o e hb => by rw [(hch b hb).s0] at e; cases e
  have cellK : ∀ x c, X.env.cells.lookup x = some c → ∀ v, s.heap.IsCell c v → h'.IsCell c v := fun x c e v ⟨o, ho, hd⟩ => by
    have nch : c ∉ ch := fun z => (hch c z).cell x c e rfl
    by_cases hc : c ∈ X.fs
    · obtain ⟨sl, q⟩ := slot c o (I.cne x c e) hc nch ho (I.freeC x c e)
      exact ⟨_, q, hd⟩
    · exact ⟨o, keep c o (I.cne x c e) hc nch ho (I.freeC x c e), hd⟩
  refine ⟨I.ok, I.os, I.bare, ⟨fun b o e n hb hx => ?_, fun b o e n hb hx => ?_, I.base.free, fun b o e hx => ?_, I.base.tups, I.base.frzs, I.base.tbls⟩, ?_, fun x c e => ?_, I.free, I.freeC, fun p hp => ?_, hok, I.len⟩
  · exact keep b o (neL b o e) hb (neC b o e) (I.base.keep b o e n hb hx) (I.base.free b o e n hx)
  · obtain ⟨sl, e1⟩ := I.base.slot b o e n hb hx
    obtain ⟨sl', e2⟩ := slot b _ (neL b o e) hb (neC b o e) e1 (I.base.free b o e n hx)
    exact ⟨sl', e2⟩
  · obtain ⟨o', e1⟩ := I.base.there b o e hx
    exact there b o' (neC b o e) e1
  · obtain ⟨m, hn, hl⟩ := I.loc
    refine ⟨m, ns m hn, fun i x v e1 e2 e3 => ?_⟩
    obtain ⟨u, r, l⟩ := hl i x v e1 e2 e3
    refine ⟨u, r, ?_⟩
    rcases l with l | ⟨k, c, e, z⟩
    · exact .inl l
    · exact .inr ⟨k, c, e, cellK x c e _ z⟩
  · obtain ⟨v, z⟩ := I.cell x c e
    exact ⟨v, cellK x c e v z⟩
  · obtain ⟨e, n, ne, nf, d⟩ := I.pin p hp
    have nch : p.1 ∉ ch := fun z => (hch p.1 z).pin p hp rfl
    exact ⟨keep p.1 p.2 ne nf nch e n, n, ne, nf, d⟩
theorem Inv.fsStk (I : Inv X pins σ H s) : ∀ b ∈ X.fs, b ∈ frs X.stack := fun b hb => by
  rcases I.ok.stk with e | ⟨e, _⟩
  · rw [e]; exact hb
  · rw [e]
    unfold frs
    rw [List.filterMap_cons]
    split
    · exact hb
    · exact List.mem_cons_of_mem _ hb
theorem Inv.flown (I : Inv X pins σ H s) {as : List Addr} (ha : ∀ b ∈ as, Off X pins b ∧ H b = none) (st : (hideAll s.heap (as ++ frs X.stack)).StaysIn h') (up : s.heap.UpToSlots h') : Inv X pins σ H { s with heap := h' } := by
  have stay : ∀ b o, s.heap.get? b = some o → b ∉ as → b ∉ frs X.stack → h'.get? b = some o := fun b o q n1 n2 => st b o (hideAll_get _ q fun z => (List.mem_append.mp z).elim n1 n2)
  have fr : ∀ b o, s.heap.get? b = some o → b ∈ frs X.stack → ∃ sl, h'.get? b = some { o with slots := sl } := fun b o q hb => by
    obtain ⟨_, o2, q2, q3⟩ := I.stack.mem hb
    rw [q] at q2
    cases q2
    exact up b o q q3
  refine I.stepO (ch := as) (fun b hb => (ha b hb).1) (fun b o n1 n2 n3 q _ => ?_) (fun b o _ hb _ q _ => fr b o q (I.fsStk b hb)) (fun b o n q => ?_) (fun m hm => up.ns hm) (fun b o q => ?_)
  · exact stay b o q n3 fun z => (List.mem_cons.mp (I.stkSub b z)).elim n1 n2
  · by_cases hb : b ∈ frs X.stack
    · obtain ⟨sl, z⟩ := fr b o q hb
      exact ⟨_, z⟩
    · exact ⟨o, stay b o q n hb⟩
  · refine (I.hok b o q).stay (fun c u hc hu => ?_) (fun _ z => z) fun _ _ z => z
    have hc' : H c ≠ none := by
      rcases hc with z | z
      · rw [z, q]; exact Option.some_ne_none _
      · rw [z]; exact Option.some_ne_none _
    exact stay c u hu (fun z => hc' (ha c z).2) fun z => hc' (I.stkFree c z)
theorem Inv.track {a : Addr} {o : HO} (I : Inv X pins σ H s) (ha : Off X pins a) (hn : H a = none) (hfs : a ∉ X.fs) (ok : ObjOk X.prog X.w (upd H a o) s.heap a o) : Inv X pins σ (upd H a o) s := by
  have ne : ∀ b, b ≠ a → upd H a o b = H b := fun b hb => upd_ne hb
  refine ⟨I.ok, I.os, I.bare, ⟨I.base.keep, I.base.slot, fun b u q n hx => ?_, I.base.there, fun b xs q => ?_, fun b u xs q => ?_, fun b ps q => ?_⟩, I.loc, I.cell, ?_, fun x c e => ?_, fun p hp => ?_, fun b u q => ?_, I.len⟩
  · rw [ne b (by rintro rfl; rw [ha.s0] at q; cases q)]; exact I.base.free b u q n hx
  · have := I.base.tups b xs q
    rw [ne b (ne_of_none this hn)]; exact this
  · have := I.base.frzs b u xs q
    rw [ne b (ne_of_none this hn)]; exact this
  · obtain ⟨more, z⟩ := I.base.tbls b ps q
    exact ⟨more, by rw [ne b (ne_of_none z hn)]; exact z⟩
  · rw [ne _ (Ne.symm ha.loc)]; exact I.free
  · rw [ne _ (ha.cell x c e)]; exact I.freeC x c e
  · obtain ⟨e1, n, e3, e4, e5⟩ := I.pin p hp
    exact ⟨e1, by rw [ne _ (ha.pin p hp)]; exact n, e3, e4, e5⟩
  · by_cases hb : b = a
    · subst hb
      rw [upd_same] at q
      cases q
      exact ok
    · rw [ne b hb] at q
      exact (I.hok b u q).stay (fun _ _ _ z => z) (fun c z => by rw [ne c (ne_of_none z hn)]; exact z) fun c xs z => by rw [ne c (ne_of_none z hn)]; exact z
theorem goes_ok {M : Model} {A : Around} {E : Value → Shared → Prop} {i : Nat} {x : Str} {pos : Pos} {Q : Unit → Shared → Prop} (I : Inv X pins σ H s) (hN : X.N.Nodup) (hi : X.N[i]? = some x) (hk : X.env.scope.names.lookup x = some .local)
    (h : ∀ s', Inv X pins (σ.set i none) H s' → Q () s') : wpAny M A (do bindName X.env x .none; unbindBehindTheSuite X.env x pos) Q E s := by
  obtain ⟨m, hn, hl⟩ := id I.loc
  have hcls : (X.env.scope.kind == .class || (X.env.scope.kind == .module && X.env.locals != X.env.globals)) = false := by rw [I.ok.kind]; rfl
  have hiσ : i < σ.length := by rw [I.len]; exact (List.getElem?_eq_some_iff.mp hi).1
  have cne := I.cne
  obtain ⟨oL, _, _, hoL, _⟩ := id hn
  refine wpAny_nameGoes_keeps hk hn hcls fun h' v hn' hs => ?_
  have hok : HOk X.prog X.w H h' := fun b ob e => by
    refine (I.hok b ob e).stay (fun c w' hc q => (hs.2 c ?_).trans q) (fun _ q => q) fun _ _ q => q
    rintro rfl
    rcases hc with rfl | hc
    · rw [I.free] at e; cases e
    · rw [I.free] at hc; cases hc
  refine h { s with heap := h', toks := s.toks + 1 } ⟨I.ok, I.os, I.bare, ⟨fun b o e n hb hx => ?_, fun b o e n hb hx => ?_, I.base.free, fun b o e hx => ?_, I.base.tups, I.base.frzs, I.base.tbls⟩, ⟨_, hn', fun j y v' e1 e2 e3 => ?_⟩, fun y c e => ?_, I.free, I.freeC, fun p hp => ?_, hok, by simpa using I.len⟩
  · exact (hs.2 b (Nat.ne_of_lt (Nat.lt_of_lt_of_le (Heap.lt_size e) I.ok.above))).trans (I.base.keep b o e n hb hx)
  · obtain ⟨sl, e1⟩ := I.base.slot b o e n hb hx
    exact ⟨sl, (hs.2 b (Nat.ne_of_lt (Nat.lt_of_lt_of_le (Heap.lt_size e) I.ok.above))).trans e1⟩
  · obtain ⟨o', e1⟩ := I.base.there b o e hx
    exact ⟨o', (hs.2 b (Nat.ne_of_lt (Nat.lt_of_lt_of_le (Heap.lt_size e) I.ok.above))).trans e1⟩
  · by_cases hj : j = i
    · subst hj
      rw [List.getElem?_set_self hiσ] at e2
      cases e2
    · rw [List.getElem?_set_ne (Ne.symm hj)] at e2
      obtain ⟨u', r', q⟩ := hl j y v' e1 e2 e3
      refine ⟨u', r', ?_⟩
      rcases q with ⟨k, e⟩ | ⟨k, c, e, z⟩
      · refine .inl ⟨k, ?_⟩
        have : y ≠ x := fun e => hj (nodup_ix hN e1 (e ▸ hi))
        simp [this, e]
      · exact .inr ⟨k, c, e, z.sameBut hs (cne y c e)⟩
  · obtain ⟨w', z⟩ := I.cell y c e
    exact ⟨w', z.sameBut hs (cne y c e)⟩
  · obtain ⟨e, n, ne, nf, d⟩ := I.pin p hp
    exact ⟨(hs.2 p.1 ne).trans e, n, ne, nf, d⟩
noncomputable def InFl (X : Cx) (pins : List (Addr × Obj)) (H : Hp) (a : Addr) (cls : Value) (h : Heap) : Prop :=
  (Off X pins a ∧ H a = none) ∧ ∃ a0 oe vs T oT ts, h.get? a = some oe ∧ (oe.cls = cls ∧ vs[0]? = some a0) ∧ oe.data = .fields vs ∧ vs[1]? = some (.ref T) ∧ (Off X pins T ∧ H T = none) ∧ T ≠ a ∧ h.get? T = some oT ∧ oT.data = .fields ts ∧ ts[3]? = some .none
noncomputable def PEX (X : Cx) (e : Expr) (t : St → Hp → VK → XK → Prop) : Prop := ∀ (pins : List (Addr × Obj)) (s : Shared) (σ : St) (H : Hp) (Q : VK) (E : XK) (G : Value → Shared → Prop), Inv X pins σ H s → t σ H Q E →
  (∀ a cls H' s', Inv X pins σ H' s' → InFl X pins H' a cls s'.heap → E cls none H' → G (.ref a) s') → wpAny (model X.prog X.w) X.A (eval e X.env) (EP X pins σ Q) G s
theorem PA.any {es : List Expr} {t : TA} (h : PA X.nox es t) {pos : Pos} {Q : List V → Hp → Prop} {G : Value → Shared → Prop} (I : Inv X pins σ H s) (hw : t σ H Q) : wpAny (model X.prog X.w) X.A (spliced (backTo pos (starEach es X.env))) (AP X pins σ Q) G s :=
  wpAny_mono (h pos pins s σ H Q (I.wish _) hw) (fun _ _ ⟨vs, H', I', r, q⟩ => ⟨vs, H', I'.unwish, r, q⟩) fun _ _ z => False.elim z
noncomputable abbrev handX (X : Cx) (a : Addr) : Cx := { X with A := X.A.mark (some (.ref a)), calm := false, xe := fun _ _ => False }
theorem Inv.hand (I : Inv X pins σ H s) (a : Addr) : Inv (handX X a) pins σ H s :=
  ⟨⟨I.ok.mod, I.ok.kind, I.ok.glob, I.ok.blt, I.ok.above, I.ok.inj, I.ok.has, I.ok.cab, (fun z => by cases z), I.ok.frames, I.ok.stk, I.ok.exf, I.ok.bs, I.ok.bsz, I.ok.noex, I.ok.exfs, I.ok.funs, I.ok.frf⟩, I.os, I.bare, I.base, I.loc, I.cell, I.free, I.freeC, I.pin, I.hok, I.len⟩
theorem Inv.unhand {a : Addr} (ok : X.Ok) (I : Inv (handX X a) pins σ H s) : Inv X pins σ H s := ⟨ok, I.os, I.bare, I.base, I.loc, I.cell, I.free, I.freeC, I.pin, I.hok, I.len⟩
theorem excP_ok {P : Program} {w : World} {C a : Addr} {H : Hp} {h : Heap} {o : Obj} (e : h.get? a = some o) (hc : o.cls = .ref C) : ObjOk P w H h a (.ext (excP C a)) :=
  ⟨⟨o, e, hc⟩, ⟨o, e⟩, fun h1 h2 ⟨o1, q1, q2⟩ k => ⟨o1, k o1 q1, q2⟩⟩
theorem InFl.fly {a : Addr} {cls : Value} (I : Inv X pins σ H s) (h : InFl X pins H a cls s.heap) : ∃ a0 T, (Off X pins T ∧ H T = none) ∧ Heap.FlyingW (hideAll s.heap ([a, T] ++ frs X.stack)) X.stack a cls a0 s.heap := by
  obtain ⟨_, a0, oe, vs, T, oT, ts, t1, t2, t3, t4, t5, t6, t7, t8, t9⟩ := h
  exact ⟨a0, T, t5, fun b o q => of_hideAll _ q, hideAll_none _ (by simp), funFrames_hide I.stack fun env hm b hb => List.mem_append_right _ (List.mem_filterMap.mpr ⟨env, hm, hb⟩), oe, vs, T, oT, ts, t1, t2, t3, t4, hideAll_none _ (by simp), t6, t7, t8, t9⟩
theorem InFl.flown {a T : Addr} {cls a0 : Value} (I : Inv X pins σ H s) (ha : Off X pins a ∧ H a = none) (hT : Off X pins T ∧ H T = none) (hf : Heap.FlyingW (hideAll s.heap ([a, T] ++ frs X.stack)) X.stack a cls a0 h') (up : s.heap.UpToSlots h') (hex : X.ex = []) :
    Inv X pins σ H { s with heap := h' } ∧ InFl X pins H a cls h' := by
  have J : Inv X pins σ H { s with heap := h' } := I.flown (as := [a, T]) (fun b hb => by
    rcases List.mem_cons.mp hb with z | z
    · rw [z]; exact ha
    · rw [List.mem_singleton.mp z]; exact hT) hf.1 up
  refine ⟨J, ha, ?_⟩
  obtain ⟨_, _, ff, oe, vs, T', oT, ts, t1, t2, t3, t4, t5, t6, t7, t8, t9⟩ := hf
  refine ⟨a0, oe, vs, T', oT, ts, t1, t2, t3, t4, ?_, t6, t7, t8, t9⟩
  have hTf : T' ∉ frs X.stack := fun z => by
    obtain ⟨_, o, ho, hd⟩ := ff.mem z
    rw [t7] at ho
    cases ho
    exact hd _ t8
  by_cases hz : T' ∈ [a, T]
  · rcases List.mem_cons.mp hz with z | z
    · rw [z]; exact ha
    · rw [List.mem_singleton.mp z]; exact hT
  · have q : s.heap.get? T' = none := by
      cases q : s.heap.get? T' with
      | none => rfl
      | some o => rw [hideAll_get _ q (fun z => (List.mem_append.mp z).elim hz hTf)] at t5; cases t5
    exact ⟨.of I hex q, I.hok.none_of q⟩
theorem InFl.ty {M : Model} {a : Addr} {cls : Value} {h : Heap} (x : InFl X pins H a cls h) : Looks M h (typeOf (.ref a)) cls := by
  obtain ⟨_, a0, oe, vs, T, oT, ts, t1, t2, _⟩ := x
  obtain ⟨rfl, _⟩ := t2
  exact (Looks.ld t1).andThen .now
theorem hb_miss {a D : Addr} {cls : Value} {x : Str} {np pos : Pos} {name : Option Str} {b₀ : Stmt} {suite : List Stmt} {rest : List ExceptHandler} {Q : Flow → Shared → Prop} (I : Inv X pins σ H s) (h : InFl X pins H a cls s.heap) (hg : Gl X x) (hm : X.mg x = some (.ref D)) (hx : exmOne X.K cls (.ref D) = some false)
    (k : wpAny (model X.prog X.w) X.A (handleBy (.ref a) X.env rest) Q X.xe s) (hdb : (x == ("__debug__" : Str)) = false := by decide) :
    wpAny (model X.prog X.w) X.A (handleBy (.ref a) X.env (.ExceptHandler (some (.Name x np)) name (b₀ :: suite) pos :: rest)) Q X.xe s := by
  refine wpAny_handleBy_cons (codeAny_handlers_test (ld_glob (X := handX X a) (I.hand a) hg hm ?_ hdb)) (by intro q; cases q)
  exact exm_one (I.hand a).kIn h.ty hx _ _ _ s (fun _ _ e => e) k
noncomputable abbrev goesB (i : Nat) (B : Ends) : Ends := { nx := fun σ H => B.nx (σ.set i none) H, rt := B.rt, bk := fun σ H => B.bk (σ.set i none) H, ct := fun σ H => B.ct (σ.set i none) H }
theorem hb_hitB {a C D : Addr} {i : Nat} {n x : Str} {np pos : Pos} {b₀ : Stmt} {suite : List Stmt} {rest : List ExceptHandler} {B : Ends} {t : TS} (I : Inv X pins σ H s) (h : InFl X pins H a (.ref C) s.heap) (hex : X.ex = []) (hfs : a ∉ X.fs) (hg : Gl X x) (hm : X.mg x = some (.ref D)) (hx : exmOne X.K (.ref C) (.ref D) = some true)
    (hN : X.N.Nodup) (hi : X.N[i]? = some n) (hk : X.env.scope.names.lookup n = some .local) (hs : PSs (handX X a) (b₀ :: suite) t) (ht : t (goesB i B) (σ.set i (some (.ref a))) (upd H a (.ext (excP C a)))) (hdb : (x == ("__debug__" : Str)) = false := by decide) :
    wpAny (model X.prog X.w) X.A (handleBy (.ref a) X.env (.ExceptHandler (some (.Name x np)) (some n) (b₀ :: suite) pos :: rest)) (SP X pins B) X.xe s := by
  refine wpAny_handleBy_cons (codeAny_handlers_test (ld_glob (X := handX X a) (I.hand a) hg hm ?_ hdb)) (by intro q; cases q)
  refine exm_one (I.hand a).kIn h.ty hx _ _ _ s (fun _ _ e => e) (codeAny_handlers_suite_as ?_)
  obtain ⟨a0, T, hT, hf⟩ := h.fly I
  refine lands_againW hf fun h6 hf6 up => ?_
  obtain ⟨J, hJ⟩ := InFl.flown I h.1 hT hf6 up hex
  obtain ⟨oe, ws, hoe, hoec, _, _⟩ := hf6.first
  have J2 := J.track h.1.1 h.1.2 hfs (excP_ok hoe hoec)
  refine store_ok (X := handX X a) (v := .ref a) (J2.hand a) hN hi (.inl hk) rfl (fun s7 J7 => ?_) (.inr hk)
  refine wpAny_mono (hs pins _ _ _ (goesB i B) J7 ht) (fun f s4 q => ?_) fun _ _ z => z.elim
  cases f with
  | next => obtain ⟨σ', H', I', q⟩ := q; exact goes_ok (I'.unhand I.ok) hN hi hk fun s' I2 => ⟨_, H', I2, q⟩
  | brk => obtain ⟨σ', H', I', q⟩ := q; exact goes_ok (I'.unhand I.ok) hN hi hk fun s' I2 => ⟨_, H', I2, q⟩
  | cont => obtain ⟨σ', H', I', q⟩ := q; exact goes_ok (I'.unhand I.ok) hN hi hk fun s' I2 => ⟨_, H', I2, q⟩
  | ret u => obtain ⟨v, σ', H', I', r, q⟩ := q; exact goes_ok (I'.unhand I.ok) hN hi hk fun s' I2 => ⟨v, _, H', I2, r, q⟩
theorem to_handlers {a : Addr} {cls : Value} {hs : List ExceptHandler} {Q : Flow → Shared → Prop} (I : Inv X pins σ H s) (h : InFl X pins H a cls s.heap) (hex : X.ex = []) (hstk : X.stack = X.env :: X.outer) (hfr : X.env.frame = some X.env.locals)
    (k : ∀ s', Inv X pins σ H s' → InFl X pins H a cls s'.heap → wpAny (model X.prog X.w) X.A (handleBy (.ref a) X.env hs) Q X.xe s') :
    wpAny (model X.prog X.w) X.A (noteFrame (.ref a) X.env) (fun _ s₂ => wpAny (model X.prog X.w) X.A (setFlight (.ref a) none) (fun _ s₃ => wpAny (model X.prog X.w) X.A (handleBy (.ref a) X.env hs) Q X.xe s₃) X.xe s₂) X.xe s := by
  obtain ⟨a0, T, hT, hf⟩ := h.fly I
  rw [hstk] at hf
  refine wpAny_looks_onW (by rw [← hstk]; exact I.ok.frames) hfr hf fun h4 hh4 up4 => ?_
  refine wpAny_landsW hh4 fun h5 hf5 up5 => ?_
  rw [← hstk] at hf5
  obtain ⟨J, hJ⟩ := InFl.flown I h.1 hT hf5 (up4.trans up5) hex
  exact k _ J hJ
end
end L2
namespace L2
open PySem PySem.Spec PyProof.Rows PySem.W
section
variable {X : Cx} {pins : List (Addr × Obj)} {σ : St} {H H' : Hp} {s : Shared} {pos : Pos} {e : Expr} {es : List Expr}
theorem Off.nfs {a : Addr} (I : Inv X pins σ H s) (h : Off X pins a) : a ∉ X.fs := fun z => by
  obtain ⟨_, o, ho, _⟩ := I.ok.funs.mem z
  rw [h.s0] at ho; cases ho
noncomputable abbrev TX := St → Hp → VK → XK → Prop
noncomputable abbrev HDt := Value → Ends → St → Hp → Prop
noncomputable def HD (X : Cx) (hs : List ExceptHandler) (hd : HDt) : Prop := ∀ (pins : List (Addr × Obj)) (s : Shared) (σ : St) (H : Hp) (B : Ends) (a : Addr) (cls : Value), Inv X pins σ H s → InFl X pins H a cls s.heap → hd cls B σ H → wpAny (model X.prog X.w) X.A (handleBy (.ref a) X.env hs) (SP X pins B) X.xe s
theorem hd_nil : HD X [] (fun _ _ _ _ => False) := fun _ _ _ _ _ _ _ _ _ h => h.elim
theorem hd_consB {D : Addr} {i : Nat} {n x : Str} {np hpos : Pos} {b₀ : Stmt} {suite : List Stmt} {rest : List ExceptHandler} {t : Addr → TS} {hd : HDt} (hex : X.ex = []) (hN : X.N.Nodup) (hi : X.N[i]? = some n) (hk : X.env.scope.names.lookup n = some .local) (hg : Gl X x) (hm : X.mg x = some (.ref D)) (hs : ∀ a, PSs (handX X a) (b₀ :: suite) (t a)) (hr : HD X rest hd)
    (hdb : (x == ("__debug__" : Str)) = false := by decide) :
    HD X (.ExceptHandler (some (.Name x np)) (some n) (b₀ :: suite) hpos :: rest) (fun cls B σ H => (∃ C, cls = .ref C ∧ exmOne X.K cls (.ref D) = some true ∧ ∀ a, H a = none → t a (goesB i B) (σ.set i (some (.ref a))) (upd H a (.ext (excP C a)))) ∨ (exmOne X.K cls (.ref D) = some false ∧ hd cls B σ H)) := by
  intro pins s σ H B a cls I hf h
  rcases h with ⟨C, rfl, hx, ht⟩ | ⟨hx, h⟩
  · exact hb_hitB I hf hex (hf.1.1.nfs I) hg hm hx hN hi hk (hs a) (ht a hf.1.2) hdb
  · exact hb_miss I hf hg hm hx (hr pins s σ H B a cls I hf h) hdb
theorem ps_tryR {t : TX} {hd : HDt} {p1 : Pos} {h₀ : ExceptHandler} {hs : List ExceptHandler} (hex : X.ex = []) (hstk : X.stack = X.env :: X.outer) (hfr : X.env.frame = some X.env.locals) (he : PEX X e t) (hh : HD X (h₀ :: hs) hd) :
    PS X (.Try [.Return (some e) p1] (h₀ :: hs) [] [] pos) (fun B σ H => t σ H B.rt (fun cls _ H' => hd cls B σ H')) := by
  intro pins s σ H B I h
  refine wpAny_Try_except (wpAny_execs_cons (wpAny_Return_some (thn (he pins s σ H _ _ _ I h fun a cls H' s' J hfl hE => ?_) fun v s1 ⟨x, H1, I1, r1, q1⟩ => ?_)))
  · exact to_handlers J hfl hex hstk hfr fun s'' J'' hfl'' => hh pins s'' σ H' B a cls J'' hfl'' hE
  · exact ⟨x, σ, H1, I1, r1, q1⟩
noncomputable abbrev TAX := St → Hp → (List V → Hp → Prop) → XK → Prop
noncomputable def PAX (X : Cx) (es : List Expr) (t : TAX) : Prop := ∀ (pos : Pos) (pins : List (Addr × Obj)) (s : Shared) (σ : St) (H : Hp) (Q : List V → Hp → Prop) (E : XK) (G : Value → Shared → Prop), Inv X pins σ H s → t σ H Q E →
  (∀ a cls H' s', Inv X pins σ H' s' → InFl X pins H' a cls s'.heap → E cls none H' → G (.ref a) s') → wpAny (model X.prog X.w) X.A (spliced (backTo pos (starEach es X.env))) (AP X pins σ Q) G s
theorem pax_one {t : TX} (he : PEX X e t) (hs : starEach [e] X.env = (false, eval e X.env) :: starEach [] X.env := by rfl) : PAX X [e] (fun σ H Q E => t σ H (fun v H1 => Q [v] H1) E) := by
  intro pos pins s σ H Q E G I h hG
  rw [hs]
  show wpAny _ _ (spliced ((false, eval e X.env) :: backTo pos (starEach [] X.env))) _ _ s
  refine Calls.spliced_cons (thn (he pins s σ H _ _ _ I h hG) fun u s1 ⟨x, H1, I1, r1, q1⟩ => ?_)
  exact Calls.spliced_nil ⟨[x], H1, I1, .cons r1 .nil, q1⟩
theorem pax_cons {te : TE} {t : TAX} (ha : PE X.nox e te) (hr : PAX X es t) (hs : starEach (e :: es) X.env = (false, eval e X.env) :: starEach es X.env := by rfl) : PAX X (e :: es) (fun σ H Q E => te σ H fun v H1 => t σ H1 (fun vs H2 => Q (v :: vs) H2) E) := by
  intro pos pins s σ H Q E G I h hG
  rw [hs]
  show wpAny _ _ (spliced ((false, eval e X.env) :: backTo pos (starEach es X.env))) _ _ s
  refine Calls.spliced_cons (wpAny_mono (ha pins s σ H _ (I.wish _) h) (fun u s1 ⟨x, H1, I1, r1, q1⟩ => ?_) fun _ _ z => False.elim z)
  exact thn (hr pos pins s1 σ H1 _ _ _ I1.unwish q1 hG) fun us s2 ⟨xs, H2, I2, r2, q2⟩ => ⟨x :: xs, H2, I2, .cons r1 r2, q2⟩
theorem pex_tup {x1} {t : TAX} (h : PAX X es t) : PEX X (.Tuple es x1 pos) (fun σ H Q E => t σ H (fun xs H1 => xs.length ≤ sizeLine ∧ ∀ p, H1 p = none → Q (.ref p) (upd H1 p (.tup xs))) E) := by
  intro pins s σ H Q E G I hq hG
  refine wpAny_Tuple_spliced (thn (h pos pins s σ H _ _ _ I hq hG) fun us s1 ⟨xs, H1, I1, r, z, q⟩ => ⟨by rw [← r.length]; exact z, ?_⟩)
  have hf : H1 s1.heap.objs.size = none := I1.hok.fresh (Nat.le_refl _)
  refine ⟨.ref s1.heap.objs.size, upd H1 s1.heap.objs.size (.tup xs), I1.laid (t' := s1.toks) (fun b u e => Heap.get?_push_of_some _ e) (Nat.le_refl _) ?_, rfl, q _ hf⟩
  exact ⟨z, us, r, ⟨_, Heap.get?_push_size _ rfl, rfl, _, rfl⟩⟩
end
end L2
namespace L2
open PySem PySem.Spec PyProof.Rows PySem.W PySem.Builtin PySem.Builtin.ObjectAttr PySem.Builtin.Getset_descriptor
noncomputable def excK (K : Frag) (C : Addr) : Bool := (clsIn K C).isSome && findIn K (.ref C) "__getattribute__" == some (some (.builtin "BaseException.__getattribute__")) && findIn K (.ref C) "__getattr__" == some none && findIn K (.ref C) "__class__" == some (some (.builtin "object.__class__"))
  && specialIn K (.builtin "object.__class__") "__get__" == some (some (.builtin "getset_descriptor.__get__")) && mroIn K C (.type "object") == some true && mroIn K C (.type "BaseException") == some true
structure ExcK (K : Frag) (C : Addr) : Prop where
  cl : (clsIn K C).isSome = true
  ga : findIn K (.ref C) "__getattribute__" = some (some (.builtin "BaseException.__getattribute__"))
  gt : findIn K (.ref C) "__getattr__" = some none
  ca : findIn K (.ref C) "__class__" = some (some (.builtin "object.__class__"))
  gs : specialIn K (.builtin "object.__class__") "__get__" = some (some (.builtin "getset_descriptor.__get__"))
  ob : mroIn K C (.type "object") = some true
  be : mroIn K C (.type "BaseException") = some true
theorem ExcK.of {K : Frag} {C : Addr} (h : excK K C = true) : ExcK K C := by
  unfold excK at h
  simp only [Bool.and_eq_true, beq_iff_eq] at h
  obtain ⟨⟨⟨⟨⟨⟨h1, h2⟩, h3⟩, h4⟩, h5⟩, h6⟩, h7⟩ := h
  exact ⟨h1, h2, h3, h4, h5, h6, h7⟩
section
variable {prog : Program} {w : World} {A : Around} {E : Value → Shared → Prop} {h : Heap} {g : Array GenState} {d : Drawn} {t : Nat} {os : OsState} {K : Frag} {a C : Addr}
theorem excP.ty {M : Model} (p : excP C a h) : Looks M h (typeOf (.ref a)) (.ref C) := by
  obtain ⟨o, h1, h2⟩ := p
  exact h2 ▸ (Looks.ld h1).andThen .now
theorem exc_get {tp : Value} {R : Result → Shared → Prop} (X : K.In h) (p : excP C a h) (k : ExcK K C) (hR : R (.ok (.ret (.ref C))) ⟨h, g, d, t, os⟩) :
    codeAny (model prog w) A (.call (.builtin "getset_descriptor.__get__") ⟨[.builtin "object.__class__", .ref a, tp], []⟩) R ⟨h, g, d, t, os⟩ := by
  have q0 := p.ty (M := model prog w)
  have q1 := looks_mroIn (M := model prog w) X k.ob
  apply codeAny_call_builtin KF.slot_gs.plain KF.entry_gs
  refine KF.slot_gs.check _ _ _ _ _ _ _ _ KF.type_class (KF.args_gs _ _ _) ?_
  (unfold Builtin.«getset_descriptor.__get__» descrGet; rw [dga_obj]; refine wpAny_bind (wpAny_pure ?_))
  (unfold descrGetter descrCheckInstance; unfold descrNameAndClass isInstance; simp only [KF.owner_class]; repeat lk)
  constructor
  · exact Code.quiet_builtin _ (by decide +kernel)
  apply codeAny_builtin KF.entry_class
  (unfold Builtin.«object.__class__»; unfold shownTypeOf; repeat lk)
  exact hR
theorem exc_entry {tk : Tok} {Q : Fin → Shared → Prop} (X : K.In h) (p : excP C a h) (k : ExcK K C) (hq : Q (.done (.ret (.ref C))) ⟨h, g, d, t, os⟩) :
    wpAny (model prog w) A (Builtin.«object.__getattribute__» ⟨[.ref a, .str "__class__" tk], []⟩) Q E ⟨h, g, d, t, os⟩ := by
  have q0 := p.ty (M := model prog w)
  have q1 := looks_findIn (M := model prog w) X k.ca
  have q2 := looks_specialIn (M := model prog w) X k.gs
  unfold Builtin.«object.__getattribute__»
  repeat (any_goals (first | assumption | (with_reducible refine wpAny_call (exc_get X p k ?_)) | lk | wp_step))
theorem exc_call {tk : Tok} {R : Result → Shared → Prop} (X : K.In h) (p : excP C a h) (k : ExcK K C) (hq : R (.ok (.ret (.ref C))) ⟨h, g, d, t, os⟩) :
    codeAny (model prog w) A (.call (.builtin "BaseException.__getattribute__") ⟨[.ref a, .str "__class__" tk], []⟩) R ⟨h, g, d, t, os⟩ := by
  refine codeAny_call_builtin PySem.F.attr_ValueError.ga.plain PySem.F.entry_bexc_ga ?_
  have z1 : builtinKind "BaseException.__getattribute__" = some .slot := by decide +kernel
  have z2 : splitId "BaseException.__getattribute__" = some ("BaseException", "__getattribute__") := by decide +kernel
  have q0 := p.ty (M := model prog w)
  have q1 := looks_mroIn (M := model prog w) X k.be
  have z3 := PySem.F.args_bexc_ga (.ref a) (.str "__class__" tk)
  simp only [checkBuiltinCall, z1, z2]
  refine wpAny_bind ?_
  unfold isInstance
  repeat (any_goals (first | assumption | (with_reducible refine exc_entry X p k ?_) | lk | wp_step))
theorem exc_class {Q : Option Value → Shared → Prop} (X : K.In h) (p : excP C a h) (k : ExcK K C) (hq : Q (some (.ref C)) ⟨h, g, d, t + 1, os⟩) : wpAny (model prog w) A (getAttr? (.ref a) "__class__") Q E ⟨h, g, d, t, os⟩ := by
  have q0 := p.ty (M := model prog w)
  have q1 := looks_findIn (M := model prog w) X k.ga
  have q2 := looks_findIn (M := model prog w) X k.gt
  have z3 := PySem.F.attr_ValueError.ga.bind (.ref a)
  have z2 : (Value.builtin "BaseException.__getattribute__" == Value.builtin "object.__getattribute__") = false := by decide +kernel
  have z1 : (onTheHeap (Value.ref C) && Value.builtin "BaseException.__getattribute__" == Value.builtin "object.__getattribute__") = false := by rw [z2]; rfl
  unfold getAttr? getAttrBy? getAttrBy
  refine wpAny_bind (wpAny_mkText (wpAny_bind (wpAny_attempt (wpAny_holding (wpAny_bind (q0.at (wpAny_bind (q1.at ?_))))))))
  repeat (any_goals (first | assumption | (with_reducible refine wpAny_attempt ?_) | (with_reducible refine wpAny_call ?_) | (with_reducible refine wpAny_runValue ?_) | (with_reducible refine wpAny_run ?_) | lk | wp_step))
  show codeAny _ _ (.call (.builtin "BaseException.__getattribute__") ⟨[.ref a, .str "__class__" t], []⟩) _ _
  refine exc_call X p k ?_
  repeat (any_goals (first | assumption | lk | wp_step))
theorem kitx_exc (k : ExcK K C) : KitX K (.ref a) (.ref C) (excP C a) where
  ty := fun _ _ _ p => p.ty
  it := fun M h X _ => by
    obtain ⟨cd, hc⟩ := Option.isSome_iff_exists.mp k.cl
    unfold clsIn at hc
    split at hc
    · rename_i ho
      intro A' Q' E' s' kk q
      unfold isType loadHead
      exact wpAny_bind (wpAny_loadPart (kk _ _ (X _ _ ho)) (wpAny_pure q))
    · cases hc
  ne := fun h tp dd its n sl X htp => by
    obtain ⟨cd, hc⟩ := Option.isSome_iff_exists.mp k.cl
    refine Bool.eq_false_iff.mpr fun q => ?_
    obtain rfl : C = tp := Value.ref.inj (beq_iff_eq.mp q)
    unfold clsIn at hc
    split at hc
    · rename_i ho
      cases (X _ _ ho).symm.trans htp
    · cases hc
  ca := fun {_ _ _ _ _ s} X p q => by
    obtain ⟨h, g, d, t, os⟩ := s
    exact exc_class X p k q
end
section
variable {X : Cx}
theorem call_isx : CallR X (.builtin "isinstance") (fun xs H Q => ∃ a C c cv b, xs = [.ref a, c] ∧ H a = some (.ext (excP C a)) ∧ ExcK X.K C ∧ (∀ u, RelV c u → u = cv) ∧ kitOne X.K (.ref C) cv = some b ∧ Q (.bl b) H) := by
  intro pins s σ H xs us Q I r h
  obtain ⟨a, C, c, cv, b, rfl, ha, k, hc, e, q⟩ := h
  obtain ⟨u, v, rfl, ru, rv⟩ := vals2 r
  cases (show u = Value.ref a from ru)
  cases hc v rv
  have p : excP C a s.heap := (I.hok a _ ha).1
  exact kia_one (kitx_exc k) I.kIn p e (fun z => nomatch z) fun tk => ⟨.bl b, H, I.tok tk, rfl, q⟩
end
end L2
namespace DL
open PySem PySem.Spec PyProof.Rows L2
noncomputable def ceOf (mg : Str → Option Value) (c : Str) : Value := (mg c).getD .none
noncomputable abbrev EX (mg : Str → Option Value) (E0 : XK) : Str → Hp → Prop := fun c H' => E0 (ceOf mg c) none H'
noncomputable def runX (body : DM Fl) (n : Nat) (ds : List D) : Ro := match body (ds.map .sh ++ List.replicate (n - ds.length) .no) with
  | .ok (.rt d) _ => .ok d
  | .ok (.rto es) _ => .own es
  | .ok .nx _ => .ok .non
  | .er c => .er c
  | _ => .un
section
variable {P : Program} {w : World} {K : PySem.W.Frag} {mg : Str → Option Value} {base : Heap} {H : Hp} {Ω : Om}
end
section
variable {X : Cx} {E : Str → Hp → Prop} {E0 : XK} {pos : Pos} {e : Expr} {mp : List Nat}
structure DefX (P : Program) (w : World) (K : PySem.W.Frag) (mg : Str → Option Value) (base : Heap) (k : Nat) (x : Str) (n : Nat) (M : List D → Ro) : Prop where
  ex : ∃ (f : Addr) (fd : FuncData) (ps : List Str), FnOk P w K mg base (Fly P w) k f fd ps (spP K (ceOf mg) n M) ∧ mg x = some (.ref f) ∧ PySem.W.keepIn K (.ref f) = true ∧ Binds K fd ps []
noncomputable def fRaise (c : Str) (ok : DSt → Bool) : DM Fl := fun δ => if ok δ then .er c else .un
noncomputable abbrev tMsg (R : St → Hp → Prop) : TE := fun σ H Q => R σ H ∧ ∀ x : Str, x.length ≤ 2000000 → Q (.str x) H
noncomputable def PMD (X : Cx) (e : Expr) (ok : DSt → Bool) : Prop := ∃ R, PE X e (tMsg R) ∧ ∀ {H Ω σ δ}, RepS X.K H Ω σ δ → ok δ = true → R σ H
noncomputable def PXD (X : Cx) (e : Expr) (ok : DSt → Bool) : Prop := ∃ R, PX X e R ∧ ∀ {H Ω σ δ}, RepS X.K H Ω σ δ → ok δ = true → R σ H
noncomputable def PXsD (X : Cx) (es : List Expr) (ok : DSt → Bool) : Prop := ∃ R, PXs X es R ∧ ∀ {H Ω σ δ}, RepS X.K H Ω σ δ → ok δ = true → R σ H
theorem psd_raise {x : Str} {C : Addr} {np cpos : Pos} {ok : DSt → Bool} (hT : Thr X E0) (hc : X.calm = true) (c : ExcC X.K X.mg x C) (hm : PMD X e ok) (hg : Gl X x := by rfl) (hdb : (x == ("__debug__" : Str)) = false := by decide)
    (he : starEach [e] X.env = (false, eval e X.env) :: starEach [] X.env := by rfl) (hpl : (backTo cpos (starEach [] X.env)).any (·.1) = false := by rfl) :
    PSD X (EX X.mg E0) mp (.Raise (some (.Call (.Name x np) [e] [] cpos)) none pos) (fRaise x ok) := by
  obtain ⟨R, p, hR⟩ := hm
  refine ⟨_, ps_raise hT hc c hg (pa_cons p pa_nil he) hdb he hpl, fun σ H δ Ω r B h => ?_⟩
  unfold fRaise at h
  split at h
  · rename_i hok
    have h1 : E0 (ceOf X.mg x) none H := h H Ω .refl r.trk
    have h2 : ceOf X.mg x = .ref C := by unfold ceOf; rw [c.g]; rfl
    rw [h2] at h1
    exact ⟨hR r hok, fun y hy => ⟨by show 1 ≤ sizeLine; decide, h1⟩⟩
  · exact h.elim
theorem pmd_join {e' : Expr} {es : List Expr} {ok : DSt → Bool} (h : PXsD X (e :: e' :: es) ok) (hl : (e :: e' :: es).length ≤ 100 := by simp) : PMD X (.JoinedStr (e :: e' :: es) pos) ok := by
  obtain ⟨R, p, hR⟩ := h
  exact ⟨R, pe_join p hl, hR⟩
theorem pxsd_nil : PXsD X [] (fun _ => true) := ⟨_, pxs_nil, fun _ _ => trivial⟩
theorem pxsd_cons {es : List Expr} {ok ok' : DSt → Bool} (h : PXD X e ok) (hs : PXsD X es ok') (he : evalEach (e :: es) X.env = eval e X.env :: evalEach es X.env := by rfl) : PXsD X (e :: es) (fun δ => ok δ && ok' δ) := by
  obtain ⟨R, p, hR⟩ := h
  obtain ⟨R', p', hR'⟩ := hs
  exact ⟨_, pxs_cons p p' he, fun r h => ⟨hR r (Bool.and_eq_true_iff.mp h).1, hR' r (Bool.and_eq_true_iff.mp h).2⟩⟩
theorem pxd_const {x : Str} {j} (h : x.length ≤ 20000 := by decide +kernel) : PXD X (.Constant (.str x) j pos) (fun _ => true) := ⟨_, px_const h, fun _ _ => trivial⟩
section
variable {x : Str} {p : Pos} {i : Nat}
theorem pxd_fmtG {a : Int} (hm : GlobD X.K X.mg x (.int a)) (hg : Gl X x := by rfl) (hd : (x == ("__debug__" : Str)) = false := by decide) (h1 : a.natAbs.log2 < 1920 := by decide) (h2 : (toString a : Str).length ≤ 20000 := by decide +kernel) :
    PXD X (.FormattedValue (.Name x p) (-1) none pos) (fun _ => true) := by
  obtain ⟨u, v, e1, e2, e3⟩ := hm
  have e4 : v = .int a := e3 (fun _ => none) (fun _ => none)
  subst e4
  exact ⟨_, px_fmtI (a := a) (pe_glob hg e1 e2 hd) (fun _ _ _ q => q) h1 h2, fun _ _ => trivial⟩
end
end
end DL
namespace DL
open PySem PySem.Spec PyProof.Rows L2
noncomputable abbrev PXv (K : PySem.W.Frag) (mg : Str → Option Value) (σ : St) (Q : VK) (Ex : XK) : Sum Str DV → DSt → Hp → Om → Prop := fun r δ' H' Ω' => match r with
  | .inl c => RepS K H' Ω' σ δ' → Ex (ceOf mg c) none H'
  | .inr a => PV K σ Q a δ' H' Ω'
noncomputable def DXE (K : PySem.W.Frag) (mg : Str → Option Value) (t : TX) (fx : DM (Sum Str DV)) : Prop := ∀ σ H δ Ω, RepS K H Ω σ δ → ∀ (Q : VK) (Ex : XK), Wg EN H Ω (PXv K mg σ Q Ex) (fx δ) → t σ H Q Ex
noncomputable def PXE (X : Cx) (e : Expr) (fx : DM (Sum Str DV)) : Prop := ∃ t, PEX X e t ∧ DXE X.K X.mg t fx
section
variable {X : Cx} {pos : Pos} {e : Expr} {mp : List Nat} {K : PySem.W.Frag} {mg : Str → Option Value} {H : Hp} {Ω : Om} {σ : St} {δ : DSt}
noncomputable def HDD (X : Cx) (mp : List Nat) (hs : List ExceptHandler) (h : Str → DM Fl) : Prop := ∃ hd, HD X hs hd ∧ ∀ c σ H δ Ω B, RepS X.K H Ω σ δ → Wg EN H Ω (PF X.K mp σ B) (h c δ) → hd (ceOf X.mg c) B σ H
theorem hdd_nil : HDD X mp [] (fun _ _ => .un) := ⟨_, hd_nil, fun _ _ _ _ _ _ _ h => h⟩
noncomputable def TabX (K : PySem.W.Frag) (mg : Str → Option Value) (D : Value) (tab : Str → Option Bool) : Prop := ∀ c b, tab c = some b → ∃ C, mg c = some (.ref C) ∧ PySem.W.nsIn K mainGlobals c = some (some (.ref C)) ∧ PySem.W.exmOne K (.ref C) D = some b
noncomputable def rForget (i : Nat) : Rs Fl → Rs Fl
  | .ok fl δ => .ok fl (δ.set i .no)
  | r => r
theorem RepS.drop {i : Nat} (R : RepS K H Ω σ δ) : RepS K H Ω (σ.set i none) (δ.set i .no) := by
  refine ⟨by rw [List.length_set, List.length_set]; exact R.len, fun j s h => ?_, R.trk⟩
  by_cases hj : i = j
  · subst hj
    have hl : i < δ.length := by
      have := (List.getElem?_eq_some_iff.mp h).1
      rwa [List.length_set] at this
    rw [List.getElem?_set_self hl] at h
    cases h
    trivial
  · rw [List.getElem?_set_ne hj] at h
    rw [List.getElem?_set_ne hj]
    exact R.sl j s h
theorem hdd_consB (i : Nat) {D : Addr} {n x : Str} {np hpos : Pos} {b₀ : Stmt} {suite : List Stmt} {rest : List ExceptHandler} {fb : DM Fl} {h : Str → DM Fl} {tab : Str → Option Bool} (ht : TabX X.K X.mg (.ref D) tab) (hm : X.mg x = some (.ref D)) (hN : X.N.Nodup)
    (hs : ∀ a, PSsD (handX X a) EN mp (b₀ :: suite) fb) (hr : HDD X mp rest h) (hmp : i ∉ mp := by decide) (hex : X.ex = [] := by rfl) (hi : X.N[i]? = some n := by rfl) (hk : X.env.scope.names.lookup n = some .local := by rfl) (hg : Gl X x := by rfl) (hdb : (x == ("__debug__" : Str)) = false := by decide) :
    HDD X mp (.ExceptHandler (some (.Name x np)) (some n) (b₀ :: suite) hpos :: rest) (fun c => match tab c with | some true => fun δ => rForget i (fb (δ.set i (.sh (.exc c)))) | some false => h c | none => fun _ => .un) := by
  obtain ⟨hd, p, q⟩ := hr
  refine ⟨_, hd_consB hex hN hi hk hg hm (fun a => (hs a).choose_spec.1) p hdb, fun c σ H δ Ω B R w => ?_⟩
  dsimp only at w
  cases e : tab c with
  | none => rw [e] at w; exact w.elim
  | some b =>
    obtain ⟨C, m1, m2, m3⟩ := ht c b e
    have hc : ceOf X.mg c = .ref C := by unfold ceOf; rw [m1]; rfl
    rw [e] at w
    cases b with
    | false => exact .inr ⟨by rw [hc]; exact m3, q c σ H δ Ω B R w⟩
    | true =>
      refine .inl ⟨C, hc, by rw [hc]; exact m3, fun a ha => ?_⟩
      refine (hs a).choose_spec.2 (σ.set i (some (.ref a))) _ (δ.set i (.sh (.exc c))) Ω ((R.alloc ha).set ⟨.ref a, rfl, (show ∃ a C, _ from ⟨a, C, rfl, m2, upd_same⟩)⟩) _ ?_
      have ex : Ext H Ω (upd H a (.ext (excP C a))) Ω := .alloc ha R.trk
      have w : Wg EN H Ω (PF X.K mp σ B) (rForget i (fb (δ.set i (.sh (.exc c))))) := w
      cases e2 : fb (δ.set i (.sh (.exc c))) with
      | un => rw [e2] at w; exact w
      | er c' => rw [e2] at w; exact fun H' Ω' x t => w H' Ω' (ex.trans x) t
      | ok fl δ2 =>
        rw [e2] at w
        intro H2 Ω2 x2 σ2 R2 m2'
        have z := w H2 Ω2 (ex.trans x2) (σ2.set i none) R2.drop fun j hj => by
          have hne : i ≠ j := by rintro rfl; exact hmp hj
          rw [List.getElem?_set_ne hne, m2' j hj, List.getElem?_set_ne hne]
        cases fl with
        | nx => exact z
        | bk => exact z
        | ct => exact z
        | rt d => exact z
        | rto ds => exact z
noncomputable def fTryR (fx : DM (Sum Str DV)) (h : Str → DM Fl) : DM Fl := fx.bd fun r => match r with
  | .inl c => h c
  | .inr (.val d) => .ret (.rt d)
  | .inr (.own ds) => .ret (.rto ds)
  | .inr (.slot _) => fun _ => .un
  | .inr (.fld _ _) => fun _ => .un
theorem psd_tryR {p1 : Pos} {h₀ : ExceptHandler} {hs : List ExceptHandler} {fx : DM (Sum Str DV)} {h : Str → DM Fl} (he : PXE X e fx) (hh : HDD X mp (h₀ :: hs) h) (hex : X.ex = [] := by rfl) (hstk : X.stack = X.env :: X.outer := by rfl)
    (hfr : X.env.frame = some X.env.locals := by rfl) : PSD X EN mp (.Try [.Return (some e) p1] (h₀ :: hs) [] [] pos) (fTryR fx h) := by
  obtain ⟨t, p, d⟩ := he
  obtain ⟨hd, ph, dh⟩ := hh
  refine ⟨_, ps_tryR hex hstk hfr p ph, fun σ H δ Ω R B w => ?_⟩
  refine d σ H δ Ω R _ _ (Wg.bd w fun r δ1 H1 Ω1 ex w1 => ?_)
  cases r with
  | inl c => exact fun R1 => dh c σ H1 δ1 Ω1 B R1 w1
  | inr a =>
    cases a with
    | val dd => exact fun R1 v rv => w1 H1 Ω1 .refl σ R1 (fun _ _ => rfl) v rv
    | own ds => exact fun R1 v rv => w1 H1 Ω1 .refl σ R1 (fun _ _ => rfl) v rv
    | slot j => exact w1.elim
    | fld _ _ => exact w1.elim
noncomputable def gIsX (tab : Str → Option Bool) : D → Option DV
  | .exc c => (tab c).map fun b => .val (.bl b)
  | _ => none
noncomputable def TabI (K : PySem.W.Frag) (D : Value) (tab : Str → Option Bool) : Prop := ∀ c b, tab c = some b → ∃ C, PySem.W.nsIn K mainGlobals c = some (some (.ref C)) ∧ ExcK K C ∧ PySem.W.kitOne K (.ref C) D = some b
theorem ped_isx {E : Str → Hp → Prop} {f : DM DV} {x : Str} {p p2 : Pos} {v : V} {u : Value} {tab : Str → Option Bool} (ht : TabI X.K u tab) (hv : ∀ z, RelV v z → z = u) (hx : PE X (.Name x p2) (tC v)) (hm : X.mg "isinstance" = none) (ha : PED X E e f) (hg : Gl X "isinstance" := by rfl)
    (hs : starEach [e, .Name x p2] X.env = (false, eval e X.env) :: starEach [.Name x p2] X.env := by rfl) (hs2 : starEach [.Name x p2] X.env = (false, eval (.Name x p2) X.env) :: starEach [] X.env := by rfl)
    (hpl : (backTo pos (starEach [.Name x p2] X.env)).any (·.1) = false := by rfl) :
    PED X E (.Call (.Name "isinstance" p) [e, .Name x p2] [] pos) (fUn f (gIsX tab)) := by
  obtain ⟨t, q, d⟩ := ha
  refine ⟨_, pe_callB call_isx hg hm boot_isinstance (pa_cons q (pa_cons hx pa_nil hs2) hs) (by decide) (by decide) hs hpl, ?_⟩
  intro σ H δ Ω R Q h
  refine d.use R h fun a1 y δ1 H1 Ω1 _ s1 R1 r1 h1 => ?_
  (try dsimp only at h1)
  cases q1 : res δ1 a1 with
  | none => rw [q1] at h1; exact h1.elim
  | some d1 =>
    rw [q1] at h1
    (try dsimp only at h1)
    cases d1 with
    | exc c =>
      cases q3 : tab c with
      | none => unfold gIsX at h1; dsimp only at h1; rw [q3] at h1; exact h1.elim
      | some bb =>
        unfold gIsX at h1
        dsimp only at h1
        rw [q3] at h1
        obtain ⟨C, n1, n2, n3⟩ := ht c bb q3
        obtain ⟨a, C', z1, z2, z3⟩ := (show ∃ a C, _ from r1.res R1 q1)
        subst z1
        rw [n1] at z2
        cases z2
        exact ⟨a, C, v, u, bb, rfl, z3, n2, hv, n3, Wg.now (d := .val (.bl bb)) h1 R1 rfl⟩
    | _ => exact h1.elim
end
end DL
namespace DL
open PySem PySem.Spec PyProof.Rows L2
section
variable {δ δ1 δ2 : DSt} {d : D} {ds es : List D} {i n : Nat} {c : Str} {as : List DV} {fa r : DM (List DV)} {f g : DM DV} {body S S1 : DM Fl} {a : DV}
theorem ev_runX (h : body (ds.map .sh ++ List.replicate (n - ds.length) .no) = .ok (.rt d) δ1) : runX body n ds = .ok d := by unfold runX; rw [h]
theorem ev_runXO (h : body (ds.map .sh ++ List.replicate (n - ds.length) .no) = .ok (.rto es) δ1) : runX body n ds = .own es := by unfold runX; rw [h]
theorem ev_raise {ok : DSt → Bool} (h : ok δ = true) : fRaise c ok δ = .er c := by unfold fRaise; rw [h]; rfl
end
section
variable {K : PySem.W.Frag} {mg : Str → Option Value} {V : Value} {k : Str} {v : Bool} {C : Addr} {l : List (Str × Bool)}
theorem lk_cons {c : Str} {b : Bool} (h : ((k, v) :: l).lookup c = some b) : (c = k ∧ v = b) ∨ l.lookup c = some b := by
  rw [List.lookup_cons] at h
  split at h
  · rename_i z
    exact .inl ⟨beq_iff_eq.mp z, Option.some.inj h⟩
  · exact .inr h
theorem tabX_nil : TabX K mg V (fun c => ([] : List (Str × Bool)).lookup c) := fun _ _ h => by cases h
theorem tabX_cons (h1 : mg k = some (.ref C)) (h2 : PySem.W.nsIn K mainGlobals k = some (some (.ref C))) (h3 : PySem.W.exmOne K (.ref C) V = some v) (h : TabX K mg V (fun c => l.lookup c)) : TabX K mg V (fun c => ((k, v) :: l).lookup c) := fun c b q => by
  rcases lk_cons q with ⟨rfl, rfl⟩ | z
  · exact ⟨C, h1, h2, h3⟩
  · exact h c b z
theorem tabI_nil : TabI K V (fun c => ([] : List (Str × Bool)).lookup c) := fun _ _ h => by cases h
theorem tabI_cons (h2 : PySem.W.nsIn K mainGlobals k = some (some (.ref C))) (hk : excK K C = true) (h3 : PySem.W.kitOne K (.ref C) V = some v) (h : TabI K V (fun c => l.lookup c)) : TabI K V (fun c => ((k, v) :: l).lookup c) := fun c b q => by
  rcases lk_cons q with ⟨rfl, rfl⟩ | z
  · exact ⟨C, h2, .of hk, h3⟩
  · exact h c b z
end
end DL
namespace DL
open PySem PySem.Spec PyProof.Rows L2
mutual
noncomputable def flat : D → Bool
  | .non => true
  | .bl _ => true
  | .int _ => true
  | .str _ => true
  | .key _ _ => true
  | .tup ds => flats ds
  | _ => false
noncomputable def flats : List D → Bool
  | [] => true
  | d :: ds => flat d && flats ds
end
mutual
theorem Rep.flat {K : PySem.W.Frag} {H : Hp} {Ω Ω' : Om} : ∀ {d : D} {v : V}, DL.flat d = true → Rep K H Ω d v → Rep K H Ω' d v
  | .non, _, _, h => h
  | .bl _, _, _, h => h
  | .int _, _, _, h => h
  | .str _, _, _, h => h
  | .key _ _, _, _, h => h
  | .tup _, _, f, h => by
    obtain ⟨a, vs, e1, e2, e3⟩ := (show ∃ a vs, _ from h)
    exact (show ∃ a vs, _ from ⟨a, vs, e1, e2, Reps.flat f e3⟩)
  | .lst _, _, f, _ => by cases f
  | .scr _, _, f, _ => by cases f
  | .exc _, _, f, _ => by cases f
  | .obj _ _ _ _, _, f, _ => by cases f
theorem Reps.flat {K : PySem.W.Frag} {H : Hp} {Ω Ω' : Om} : ∀ {ds : List D} {vs : List V}, DL.flats ds = true → Reps K H Ω ds vs → Reps K H Ω' ds vs
  | [], _, _, h => h
  | d :: ds, _, f, h => by
    obtain ⟨v, r, e1, e2, e3⟩ := (show ∃ v r, _ from h)
    obtain ⟨f1, f2⟩ := Bool.and_eq_true_iff.mp (show (DL.flat d && DL.flats ds) = true from f)
    exact (show ∃ v r, _ from ⟨v, r, e1, Rep.flat f1 e2, Reps.flat f2 e3⟩)
end
structure Bd where
  ks : List (Str × Int)
  vs : List D
  as : List D
  bs : List D
noncomputable abbrev Bd.sl (b : Bd) : Sl := .ob b.ks b.vs b.as b.bs
noncomputable abbrev Bd.d (b : Bd) : D := .obj b.ks b.vs b.as b.bs
noncomputable def bedAt (δ : DSt) (i : Nat) : Option (Bd × Bool) := match δ[i]? with
  | some (.ob ks vs as bs) => some (⟨ks, vs, as, bs⟩, true)
  | some (.sh (.obj ks vs as bs)) => some (⟨ks, vs, as, bs⟩, false)
  | _ => none
noncomputable def PtAt (K : PySem.W.Frag) (H : Hp) (Ω : Om) (l : Option Nat) (p a1 a2 a3 : Addr) (b : Bd) : Prop := ∃ kvs xs ys, BedAt K H p a1 a2 a3 ∧ (H a1 = some (.dT kvs) ∧ Ω a1 = l) ∧ (H a2 = some (.lst xs) ∧ Ω a2 = l) ∧ (H a3 = some (.lst ys) ∧ Ω a3 = l) ∧ kvs.map (·.1) = b.ks.map keyL ∧ Reps K H Ω b.vs (kvs.map (·.2)) ∧ Reps K H Ω b.as xs ∧ Reps K H Ω b.bs ys
noncomputable def isPt (a1 a2 a3 x : Addr) : Prop := x = a1 ∨ x = a2 ∨ x = a3
noncomputable instance {a1 a2 a3 x : Addr} : Decidable (isPt a1 a2 a3 x) := by unfold isPt; exact inferInstance
section
variable {K : PySem.W.Frag} {E : Str → Hp → Prop} {H H1 H' : Hp} {Ω Ω1 Ω' : Om} {σ : St} {δ : DSt} {p a1 a2 a3 : Addr} {b : Bd} {l l' : Option Nat}
theorem ObAt.pt {k : Nat} {ks : List (Str × Int)} {vs as bs : List D} (h : ObAt K H Ω k p ks vs as bs) : ∃ a1 a2 a3, PtAt K H Ω (some k) p a1 a2 a3 ⟨ks, vs, as, bs⟩ ∧ a2 ≠ a3 := by
  obtain ⟨a1, a2, a3, kvs, xs, ys, h1, h2, h3, h4, h5, h6⟩ := h
  exact ⟨a1, a2, a3, ⟨kvs, xs, ys, h1, h2, h3, h4, h6⟩, h5⟩
theorem PtAt.ob {k : Nat} (h : PtAt K H Ω (some k) p a1 a2 a3 b) (hne : a2 ≠ a3) : ObAt K H Ω k p b.ks b.vs b.as b.bs := by
  obtain ⟨kvs, xs, ys, h1, h2, h3, h4, h6⟩ := h
  exact ⟨a1, a2, a3, kvs, xs, ys, h1, h2, h3, h4, hne, h6⟩
theorem PtAt.obj (h : PtAt K H Ω none p a1 a2 a3 b) : Rep K H Ω b.d (.ref p) := by
  obtain ⟨kvs, xs, ys, h1, h2, h3, h4, h5, h6, h7, h8⟩ := h
  exact (show ∃ p a1 a2 a3 kvs xs ys, _ from ⟨p, a1, a2, a3, kvs, xs, ys, rfl, h1, h2, h3, h4, h5, h6, h7, h8⟩)
theorem bed_slot {i : Nat} {own : Bool} (R : RepS K H Ω σ δ) (h : bedAt δ i = some (b, own)) : ∃ p a1 a2 a3, σ[i]? = some (some (.ref p)) ∧ PtAt K H Ω (if own then some (i + 2) else none) p a1 a2 a3 b ∧ (own = true → a2 ≠ a3) := by
  unfold bedAt at h
  split at h
  · rename_i ks vs as bs hd
    cases h
    obtain ⟨p, e0, ho⟩ := R.sl i _ hd
    obtain ⟨a1, a2, a3, h1, h2⟩ := ObAt.pt ho
    exact ⟨p, a1, a2, a3, join_some e0, h1, fun _ => h2⟩
  · rename_i ks vs as bs hd
    cases h
    obtain ⟨v, e0, hv⟩ := R.sl i _ hd
    obtain ⟨p, a1, a2, a3, kvs, xs, ys, e1, e2⟩ := (show ∃ p a1 a2 a3 kvs xs ys, _ from hv)
    subst e1
    exact ⟨p, a1, a2, a3, join_some e0, ⟨kvs, xs, ys, e2⟩, fun z => by cases z⟩
  · cases h
theorem PtAt.re (h : PtAt K H Ω l p a1 a2 a3 b) (hl : ∀ x, Ω x = none → Ω' x = none) (h1 : Ω' a1 = l') (h2 : Ω' a2 = l') (h3 : Ω' a3 = l') : PtAt K H Ω' l' p a1 a2 a3 b := by
  obtain ⟨kvs, xs, ys, q1, q2, q3, q4, q5, q6, q7, q8⟩ := h
  exact ⟨kvs, xs, ys, q1, ⟨q2.1, h1⟩, ⟨q3.1, h2⟩, ⟨q4.1, h3⟩, q5, q6.less hl, q7.less hl, q8.less hl⟩
theorem PtAt.lab (h : PtAt K H Ω l p a1 a2 a3 b) {x : Addr} (hx : isPt a1 a2 a3 x) : Ω x = l ∧ ∃ u, H x = some u ∧ fixO u = false := by
  obtain ⟨kvs, xs, ys, q1, q2, q3, q4, _⟩ := h
  rcases hx with rfl | rfl | rfl
  · exact ⟨q2.2, _, q2.1, rfl⟩
  · exact ⟨q3.2, _, q3.1, rfl⟩
  · exact ⟨q4.2, _, q4.1, rfl⟩
theorem PtAt.bed (h : PtAt K H Ω l p a1 a2 a3 b) : BedAt K H p a1 a2 a3 := h.choose_spec.choose_spec.choose_spec.1
noncomputable def seen (Ω : Om) (a1 a2 a3 : Addr) (l : Option Nat) : Om := fun x => if isPt a1 a2 a3 x then l else under Ω x
theorem seen_pt {x : Addr} (h : isPt a1 a2 a3 x) : seen Ω a1 a2 a3 l x = l := if_pos h
theorem seen_ne {x : Addr} (h : ¬ isPt a1 a2 a3 x) : seen Ω a1 a2 a3 l x = under Ω x := if_neg h
noncomputable def home (Ω Ω' : Om) (a1 a2 a3 : Addr) : Om := fun x => if isPt a1 a2 a3 x then Ω x else back Ω Ω' x
theorem home_pt {x : Addr} (h : isPt a1 a2 a3 x) : home Ω Ω' a1 a2 a3 x = Ω x := if_pos h
theorem home_ne {x : Addr} (h : ¬ isPt a1 a2 a3 x) : home Ω Ω' a1 a2 a3 x = back Ω Ω' x := if_neg h
theorem seen_less (hp : l = none ∨ ∀ x, isPt a1 a2 a3 x → Ω x ≠ none) : ∀ x, Ω x = none → seen Ω a1 a2 a3 l x = none := fun x q => by
  by_cases h : isPt a1 a2 a3 x
  · rcases hp with z | z
    · rw [seen_pt h]; exact z
    · exact absurd q (z x h)
  · rw [seen_ne h]; exact under_none q
theorem trk_seen (R : RepS K H Ω σ δ) (h : PtAt K H Ω l p a1 a2 a3 b) : Trk H (seen Ω a1 a2 a3 l') := fun x k q => by
  by_cases hx : isPt a1 a2 a3 x
  · exact (h.lab hx).2
  · rw [seen_ne hx] at q; exact trk_under R.trk x k q
theorem Ext.home (h : PtAt K H Ω l p a1 a2 a3 b) (e : Ext H (seen Ω a1 a2 a3 l') H' Ω') (hc : l' = none ∨ ∃ k, l = some (k + 1)) : Ext H Ω H' (DL.home Ω Ω' a1 a2 a3) where
  keep := fun x o q z => by
    by_cases hx : isPt a1 a2 a3 x
    · rcases hc with hc | ⟨k, hc⟩
      · exact e.keep x o q (.inr (.inl (by rw [seen_pt hx]; exact hc)))
      · obtain ⟨z1, u, z2, z3⟩ := h.lab hx
        rw [z2] at q
        cases q
        rcases z with z | z | z
        · rw [z3] at z; cases z
        · rw [z1, hc] at z; cases z
        · rw [z1, hc] at z; cases z
    · exact e.keep x o q (z.imp_right fun y => by rw [seen_ne hx]; exact y.imp under_none under_some)
  new := fun x q z => by
    by_cases hx : isPt a1 a2 a3 x
    · rw [home_pt hx]; exact q
    · rw [home_ne hx]; exact back_none x (e.new x (by rw [seen_ne hx]; exact under_none q) z)
  fr := fun x => by
    by_cases hx : isPt a1 a2 a3 x
    · rw [home_pt hx]
    · rw [home_ne hx]
      constructor
      · intro z
        rw [back_zero ((e.fr x).mp (by rw [seen_ne hx]; exact under_some z))]
        exact z
      · intro z
        unfold DL.back at z
        split at z
        · exact z
        · cases z
        · cases z
  live := e.live
theorem trk_home (R : RepS K H Ω σ δ) (h : PtAt K H Ω l p a1 a2 a3 b) (ht : Trk H' Ω') (hs : ∀ x, isPt a1 a2 a3 x → ∃ u, H' x = some u ∧ fixO u = false) : Trk H' (DL.home Ω Ω' a1 a2 a3) := fun x k q => by
  by_cases hx : isPt a1 a2 a3 x
  · exact hs x hx
  · rw [home_ne hx] at q
    unfold DL.back at q
    split at q
    · rename_i z; exact ht x _ z
    · rename_i z; exact ht x _ z
    · cases q
theorem home_less (hp : ∀ x, isPt a1 a2 a3 x → Ω' x = none → Ω x = none) : ∀ x, Ω' x = none → DL.home Ω Ω' a1 a2 a3 x = none := fun x q => by
  by_cases hx : isPt a1 a2 a3 x
  · rw [home_pt hx]; exact hp x hx q
  · rw [home_ne hx]; exact back_none x q
theorem home_keep (e : Ext H (seen Ω a1 a2 a3 l') H' Ω') {x : Addr} {k : Nat} {u : HO} (hx : ¬ isPt a1 a2 a3 x) (q1 : Ω x = some k) (q2 : H x = some u) : H' x = some u ∧ DL.home Ω Ω' a1 a2 a3 x = some k := by
  have z : seen Ω a1 a2 a3 l' x = some 0 := by rw [seen_ne hx]; exact under_some q1
  exact ⟨e.keep x u q2 (.inr (.inr z)), by rw [home_ne hx, back_zero ((e.fr x).mp z)]; exact q1⟩
theorem RepS.homeR (R : RepS K H Ω σ δ) (h : PtAt K H Ω l p a1 a2 a3 b) (e : Ext H (seen Ω a1 a2 a3 none) H' Ω') (ht : Trk H' Ω') : RepS K H' (DL.home Ω Ω' a1 a2 a3) σ δ := by
  have kp : ∀ x, isPt a1 a2 a3 x → ∀ u, H x = some u → H' x = some u := fun x hx u q => e.keep x u q (.inr (.inl (seen_pt hx)))
  refine R.ext (Ext.home h e (.inl rfl)) (fun x k u q1 q2 => ?_) (trk_home R h ht fun x hx => ?_)
  · by_cases hx : isPt a1 a2 a3 x
    · exact ⟨kp x hx u q2, by rw [home_pt hx]; exact q1⟩
    · exact home_keep e hx q1 q2
  · obtain ⟨_, u, z2, z3⟩ := h.lab hx
    exact ⟨u, kp x hx u z2, z3⟩
theorem RepS.homeW {i : Nat} {b' : Bd} (R : RepS K H Ω σ δ) (h : PtAt K H Ω (some (i + 2)) p a1 a2 a3 b) (hne : a2 ≠ a3) (hσ : σ[i]? = some (some (.ref p))) (e : Ext H (seen Ω a1 a2 a3 (some 2)) H' Ω') (ht : Trk H' Ω') (hb : ObAt K H' Ω' 2 p b'.ks b'.vs b'.as b'.bs) :
    RepS K H' (DL.home Ω Ω' a1 a2 a3) σ (δ.set i b'.sl) := by
  have ex := Ext.home h e (.inr ⟨i + 1, rfl⟩)
  obtain ⟨c1, c2, c3, hc, _⟩ := ObAt.pt hb
  obtain ⟨rfl, rfl, rfl⟩ := (BedAt.ext ex h.bed).inj hc.bed
  have hl : ∀ x, Ω' x = none → DL.home Ω Ω' a1 a2 a3 x = none := home_less fun x hx q => by rw [(hc.lab hx).1] at q; cases q
  refine ⟨by rw [List.length_set]; exact R.len, fun j s q => ?_, trk_home R h ht fun x hx => (hc.lab hx).2⟩
  by_cases hj : i = j
  · subst hj
    have hlt : i < δ.length := by
      have := (List.getElem?_eq_some_iff.mp q).1
      rwa [List.length_set] at this
    rw [List.getElem?_set_self hlt] at q
    cases q
    refine ⟨p, by rw [hσ]; rfl, PtAt.ob (b := b') (hc.re hl ?_ ?_ ?_) hne⟩
    · rw [home_pt (.inl rfl)]; exact (h.lab (.inl rfl)).1
    · rw [home_pt (.inr (.inl rfl))]; exact (h.lab (.inr (.inl rfl))).1
    · rw [home_pt (.inr (.inr rfl))]; exact (h.lab (.inr (.inr rfl))).1
  · rw [List.getElem?_set_ne hj] at q
    refine (R.sl j s q).mv (fun _ _ => .ext ex) (fun _ _ => .ext ex) fun x u q1 q2 => ?_
    refine home_keep e (fun hx => ?_) q1 q2
    rw [(h.lab hx).1] at q1
    exact hj (by have := Option.some.inj q1; omega)
end
end DL
namespace DL
open PySem PySem.Spec PyProof.Rows L2
inductive Rw where
  | un | er (c : Str) | ok (d : D) (b : Bd) | own (ds : List D) (b : Bd)
noncomputable def RwQ (K : PySem.W.Frag) (E : Str → Hp → Prop) (H : Hp) (Ω : Om) (p a1 a2 a3 : Addr) (b : Bd) (Q : VK) : Rw → Prop
  | .un => False
  | .er c => PtAt K H Ω none p a1 a2 a3 b ∧ ∀ H' Ω', Ext H Ω H' Ω' → Trk H' Ω' → E c H'
  | .ok d b' => (PtAt K H Ω (some 2) p a1 a2 a3 b ∧ a2 ≠ a3) ∧ ∀ H' Ω', Ext H Ω H' Ω' → Trk H' Ω' → ObAt K H' Ω' 2 p b'.ks b'.vs b'.as b'.bs → ∀ v, Rep K H' Ω' d v → Q v H'
  | .own es b' => (PtAt K H Ω (some 2) p a1 a2 a3 b ∧ a2 ≠ a3) ∧ ∀ H' Ω', Ext H Ω H' Ω' → Trk H' Ω' → ObAt K H' Ω' 2 p b'.ks b'.vs b'.as b'.bs → ∀ v, RepDV K H' Ω' [] (.own es) v → Q v H'
noncomputable def spW (K : PySem.W.Frag) (ce : Str → Value) (n : Nat) (M : Bd → List D → Rw) : Sp := fun vs H Q E => vs.length = n ∧ ∃ (Ω : Om) (p a1 a2 a3 : Addr) (ws : List V) (ds : List D) (b : Bd), Trk H Ω ∧ vs = .ref p :: ws ∧ Reps K H Ω ds ws ∧ RwQ K (fun c H' => E (ce c) none H') H Ω p a1 a2 a3 b Q (M b ds)
noncomputable def tailN (n : Nat) (ds : List D) : DSt := ds.map .sh ++ List.replicate (n - (ds.length + 1)) .no
noncomputable def finW (δ' : DSt) (k : Bd → Rw) : Rw := match δ'[(0 : Nat)]? with | some (Sl.ob ks vs as bs) => k ⟨ks, vs, as, bs⟩ | _ => .un
noncomputable def runW (body : DM Fl) (n : Nat) (b : Bd) (ds : List D) : Rw := match body (b.sl :: tailN n ds) with
  | .ok (.rt d) δ' => finW δ' (.ok d)
  | .ok (.rto es) δ' => finW δ' (.own es)
  | .ok .nx δ' => finW δ' (.ok .non)
  | _ => .un
noncomputable def runWX (body : DM Fl) (n : Nat) (b : Bd) (ds : List D) : Rw := match runW body n b ds with
  | .un => (match body (.sh b.d :: tailN n ds) with | .er c => .er c | _ => .un)
  | r => r
section
variable {P : Program} {w : World} {K : PySem.W.Frag} {mg : Str → Option Value} {base : Heap} {H : Hp} {Ω : Om}
theorem RepS.startW {N : List Str} {ds : List D} {ws : List V} {p a1 a2 a3 : Addr} {b : Bd} (hr : Reps K H Ω ds ws) (ht : Trk H Ω) (hb : PtAt K H Ω (some 2) p a1 a2 a3 b) (hne : a2 ≠ a3) : RepS K H Ω (L2.start N (.ref p :: ws)) (b.sl :: tailN N.length ds) := by
  have hl := hr.length
  refine ⟨by unfold L2.start tailN; rw [List.length_cons, List.length_append, List.length_append, List.length_map, List.length_map, List.length_replicate, List.length_replicate, List.length_cons, hl]; omega, fun i s h => ?_, ht⟩
  cases i with
  | zero =>
    cases h
    exact ⟨p, rfl, hb.ob hne⟩
  | succ i =>
    have h : (tailN N.length ds)[i]? = some s := by simpa using h
    unfold tailN at h
    by_cases hi : i < ds.length
    · rw [List.getElem?_append_left (by rw [List.length_map]; exact hi), List.getElem?_map] at h
      obtain ⟨d, hd⟩ : ∃ d, ds[i]? = some d := ⟨ds[i], List.getElem?_eq_getElem hi⟩
      rw [hd] at h
      cases h
      obtain ⟨v, hv, r⟩ := hr.get hd
      refine ⟨v, ?_, r⟩
      unfold L2.start
      rw [List.getElem?_append_left (by rw [List.length_map, List.length_cons, ← hl]; omega), List.getElem?_map, List.getElem?_cons_succ, hv]
      rfl
    · rw [List.getElem?_append_right (by rw [List.length_map]; omega), List.getElem?_replicate] at h
      split at h
      · cases h; trivial
      · cases h
theorem RepS.fin0 {σ : St} {δ : DSt} {p : Addr} {k : Bd → Rw} {r : Rw} (R : RepS K H Ω σ δ) (hσ : σ[0]? = some (some (.ref p))) (h : finW δ k = r) (hr : r ≠ .un) : ∃ b', r = k b' ∧ ObAt K H Ω 2 p b'.ks b'.vs b'.as b'.bs := by
  unfold finW at h
  split at h
  · rename_i ks vs as bs hd
    obtain ⟨q, e0, ho⟩ := R.sl 0 _ hd
    rw [hσ] at e0
    cases e0
    exact ⟨⟨ks, vs, as, bs⟩, h.symm, ho⟩
  · exact absurd h.symm hr
theorem run_okW {E E2 : Str → Hp → Prop} {body : DM Fl} {ts : TS} {N : List Str} {ds : List D} {ws : List V} {p a1 a2 a3 : Addr} {b : Bd} {Q : VK} (hd : DS K E [0] ts body) (hr : Reps K H Ω ds ws) (ht : Trk H Ω)
    (hq : RwQ K E2 H Ω p a1 a2 a3 b Q (runW body N.length b ds)) (hu : ∀ c, runW body N.length b ds ≠ .er c) : ts { nx := fun _ H' => Q .non H', rt := Q } (L2.start N (.ref p :: ws)) H := by
  have hs : (L2.start N (.ref p :: ws))[0]? = some (some (.ref p)) := rfl
  unfold runW at hq
  cases e : body (b.sl :: tailN N.length ds) with
  | un => rw [e] at hq; exact hq.elim
  | er c => rw [e] at hq; exact hq.elim
  | ok fl δ' =>
    rw [e] at hq
    cases fl with
    | bk => exact hq.elim
    | ct => exact hq.elim
    | nx =>
      dsimp only at hq
      cases q : finW δ' (.ok .non) with
      | un => rw [q] at hq; exact hq.elim
      | er c => unfold finW at q; split at q <;> cases q
      | own es b' => unfold finW at q; split at q <;> cases q
      | ok d b' =>
        rw [q] at hq
        obtain ⟨⟨h1, h2⟩, h3⟩ := hq
        refine hd _ H _ Ω (RepS.startW hr ht h1 h2) _ ?_
        rw [e]
        intro H' Ω' ex σ' R' m'
        obtain ⟨b2, z1, z2⟩ := R'.fin0 (by rw [m' 0 (by simp)]; exact hs) q (by simp)
        cases z1
        exact h3 H' Ω' ex R'.trk z2 .non rfl
    | rt d0 =>
      dsimp only at hq
      cases q : finW δ' (.ok d0) with
      | un => rw [q] at hq; exact hq.elim
      | er c => unfold finW at q; split at q <;> cases q
      | own es b' => unfold finW at q; split at q <;> cases q
      | ok d b' =>
        rw [q] at hq
        obtain ⟨⟨h1, h2⟩, h3⟩ := hq
        refine hd _ H _ Ω (RepS.startW hr ht h1 h2) _ ?_
        rw [e]
        intro H' Ω' ex σ' R' m' v rv
        obtain ⟨b2, z1, z2⟩ := R'.fin0 (by rw [m' 0 (by simp)]; exact hs) q (by simp)
        cases z1
        exact h3 H' Ω' ex R'.trk z2 v rv
    | rto es0 =>
      dsimp only at hq
      cases q : finW δ' (.own es0) with
      | un => rw [q] at hq; exact hq.elim
      | er c => unfold finW at q; split at q <;> cases q
      | ok d b' => unfold finW at q; split at q <;> cases q
      | own es b' =>
        rw [q] at hq
        obtain ⟨⟨h1, h2⟩, h3⟩ := hq
        refine hd _ H _ Ω (RepS.startW hr ht h1 h2) _ ?_
        rw [e]
        intro H' Ω' ex σ' R' m' v rv
        obtain ⟨b2, z1, z2⟩ := R'.fin0 (by rw [m' 0 (by simp)]; exact hs) q (by simp)
        cases z1
        exact h3 H' Ω' ex R'.trk z2 v rv
theorem runW_ner {body : DM Fl} {n : Nat} {b : Bd} {ds : List D} (c : Str) : runW body n b ds ≠ .er c := by
  unfold runW finW
  split
  · split <;> simp
  · split <;> simp
  · split <;> simp
  · simp
theorem fnW {ce : Str → Value} {x qual : Str} {st : Stmt} {f : Addr} {fd : FuncData} {N ps : List Str} {k : Nat} {body : DM Fl} (F : Fun K x qual st f fd) (S : FnScope N ps (defScope st))
    (hb : ∀ (cdv : Value) (A : Around) (outer : List Env) (s : Shared) (H : Hp) (E : XK), Room k (A.deeper (envOfC qual (defScope st) s.heap.objs.size f cdv)) →
      PSsD (cxOf CX0 P w K mg base N qual (defScope st) f cdv A outer s H E).nox EN [0] (defBody st) body) : FnOk P w K mg base CX0 (k + 1) f fd ps (spW K ce ps.length (runW body N.length)) := by
  refine F.ok S (fun vs H Q E h => h.1) (fun cdv A outer s H vs Q E hr h => ?_)
  obtain ⟨ts, p, d⟩ := hb cdv A outer s H E hr
  refine ⟨ts, p, ?_⟩
  obtain ⟨hl, Ω, p, a1, a2, a3, ws, ds, b, ht, rfl, hr, hq⟩ := h
  exact run_okW d hr ht hq runW_ner
theorem fnWX {x qual : Str} {st : Stmt} {f : Addr} {fd : FuncData} {N ps : List Str} {k : Nat} {body : DM Fl} (F : Fun K x qual st f fd) (S : FnScope N ps (defScope st))
    (hb : ∀ (cdv : Value) (A : Around) (outer : List Env) (s : Shared) (H : Hp) (E : XK), Room k (A.deeper (envOfC qual (defScope st) s.heap.objs.size f cdv)) →
      PSsD (cxOf (Fly P w) P w K mg base N qual (defScope st) f cdv A outer s H E) (EX mg E) [0] (defBody st) body) : FnOk P w K mg base (Fly P w) (k + 1) f fd ps (spW K (ceOf mg) ps.length (runWX body N.length)) := by
  obtain ⟨oc, od, kV, doc, pm, an, cdv, ct, osl, rfl, lk, hcd⟩ := F.ex
  refine fn_of lk hcd S (fun vs H Q E h => h.1) (fun A outer s H vs Q E hr h => ?_)
  obtain ⟨ts, p, d⟩ := hb cdv A outer s H E hr
  refine ⟨ts, p, ?_⟩
  obtain ⟨hl, Ω, p, a1, a2, a3, ws, ds, b, ht, rfl, hr, hq⟩ := h
  unfold runWX at hq
  split at hq
  · split at hq
    · rename_i c e
      obtain ⟨h1, h2⟩ := hq
      refine d _ H _ Ω (RepS.start (N := N) (ds := b.d :: ds) (Reps.cons h1.obj hr) ht) _ ?_
      have e' : body (List.map Sl.sh (b.d :: ds) ++ List.replicate (N.length - (b.d :: ds).length) Sl.no) = .er c := e
      rw [e']
      exact h2
    · exact hq.elim
  · exact run_okW d hr ht hq runW_ner
end
noncomputable def roR (own : Bool) (r : Ro) (δ : DSt) : Rs DV := match r with
  | .ok d => if (!own || flat d) = true then .ok (.val d) δ else .un
  | .own es => if (!own || flats es) = true then .ok (.own es) δ else .un
  | _ => .un
noncomputable def fCallR (i n : Nat) (fa : DM (List DV)) (M : List D → Ro) : DM DV := fun δ => if (bedAt δ i).isSome = true then (fa.bd fun as δ1 => match valsOf as, bedAt δ1 i with
  | some ds, some (b, own) => if ds.length + 1 = n then roR own (M (b.d :: ds)) δ1 else .un
  | _, _ => .un) δ else .un
noncomputable def rwW (i : Nat) (own : Bool) (r : Rw) (δ : DSt) : Rs DV := match r with
  | .ok d b' => if own = true then .ok (.val d) (δ.set i b'.sl) else .un
  | .own es b' => if own = true then .ok (.own es) (δ.set i b'.sl) else .un
  | .er c => .er c
  | .un => .un
noncomputable def fCallW (i n : Nat) (fa : DM (List DV)) (M : Bd → List D → Rw) : DM DV := fun δ => if (bedAt δ i).isSome = true then (fa.bd fun as δ1 => match valsOf as, bedAt δ1 i with
  | some ds, some (b, own) => if ds.length + 1 = n then rwW i own (M b ds) δ1 else .un
  | _, _ => .un) δ else .un
noncomputable def rwX (i : Nat) (own : Bool) (r : Rw) (δ : DSt) : Rs (Sum Str DV) := match r with
  | .ok d b' => if own = true then .ok (.inr (.val d)) (δ.set i b'.sl) else .un
  | .own es b' => if own = true then .ok (.inr (.own es)) (δ.set i b'.sl) else .un
  | .er c => .ok (.inl c) δ
  | .un => .un
noncomputable def fCallWX (i n : Nat) (fa : DM (List DV)) (M : Bd → List D → Rw) : DM (Sum Str DV) := fun δ => if (bedAt δ i).isSome = true then (fa.bd fun as δ1 => match valsOf as, bedAt δ1 i with
  | some ds, some (b, own) => if ds.length + 1 = n then rwX i own (M b ds) δ1 else .un
  | _, _ => .un) δ else .un
section
variable {K : PySem.W.Frag} {E : Str → Hp → Prop} {mg : Str → Option Value} {H : Hp} {Ω : Om} {σ : St} {δ : DSt} {p a1 a2 a3 : Addr} {b : Bd} {own : Bool} {i n : Nat} {as : List DV} {vs : List V} {ds : List D} {ce : Str → Value} {Q : VK} {Ex : XK}
theorem callR_core {M : List D → Ro} (R : RepS K H Ω σ δ) (hb : PtAt K H Ω (if own then some (i + 2) else none) p a1 a2 a3 b) (r : Reps K H Ω ds vs) (hn : ds.length + 1 = n) (h : Wg E H Ω (PV K σ Q) (roR own (M (b.d :: ds)) δ)) : spP K ce n M (.ref p :: vs) H Q Ex := by
  have hls : ∀ x, Ω x = none → seen Ω a1 a2 a3 none x = none := seen_less (.inl rfl)
  refine ⟨by rw [List.length_cons, ← r.length]; exact hn, seen Ω a1 a2 a3 none, b.d :: ds, trk_seen R hb, fun x k q => ?_, .cons (PtAt.obj (hb.re hls (seen_pt (.inl rfl)) (seen_pt (.inr (.inl rfl))) (seen_pt (.inr (.inr rfl))))) (r.less hls), ?_⟩
  · by_cases hx : isPt a1 a2 a3 x
    · rw [seen_pt hx] at q; cases q
    · rw [seen_ne hx] at q; exact under_zero x k q
  have lab : ∀ {H' : Hp} {Ω' : Om}, Ext H (seen Ω a1 a2 a3 none) H' Ω' → ∀ x, isPt a1 a2 a3 x → Ω' x = none := fun e x hx => by
    obtain ⟨_, u, z2, _⟩ := hb.lab hx
    exact e.new x (seen_pt hx) (by rw [z2]; exact Option.some_ne_none _)
  have hless : own = false → ∀ {H' : Hp} {Ω' : Om}, Ext H (seen Ω a1 a2 a3 none) H' Ω' → ∀ x, Ω' x = none → home Ω Ω' a1 a2 a3 x = none := fun ho H' Ω' e => home_less fun x hx _ => by
    have := (hb.lab hx).1
    rw [ho] at this
    exact this
  cases q3 : M (b.d :: ds) with
  | un => rw [q3] at h; exact h
  | er c => rw [q3] at h; exact h.elim
  | ok d =>
    rw [q3] at h
    unfold roR at h
    dsimp only at h
    split at h
    · rename_i hf
      intro H' Ω' e ht v rv
      refine h H' _ (Ext.home hb e (.inl rfl)) (R.homeR hb e ht) v ?_
      cases own with
      | true => exact Rep.flat (by simpa using hf) rv
      | false => exact Rep.less (hless rfl e) rv
    · exact h.elim
  | own es =>
    rw [q3] at h
    unfold roR at h
    dsimp only at h
    split at h
    · rename_i hf
      intro H' Ω' e ht v ⟨a, ws, z1, z2, z3, z4⟩
      have ha : ¬ isPt a1 a2 a3 a := fun hx => by rw [lab e a hx] at z3; cases z3
      refine h H' _ (Ext.home hb e (.inl rfl)) (R.homeR hb e ht) v ⟨a, ws, z1, z2, by rw [home_ne ha]; exact back_one z3, ?_⟩
      cases own with
      | true => exact Reps.flat (by simpa using hf) z4
      | false => exact Reps.less (hless rfl e) z4
    · exact h.elim
theorem callW_core {M : Bd → List D → Rw} (R : RepS K H Ω σ δ) (hσ : σ[i]? = some (some (.ref p))) (hb : PtAt K H Ω (if own then some (i + 2) else none) p a1 a2 a3 b) (hne : own = true → a2 ≠ a3) (r : Reps K H Ω ds vs) (hn : ds.length + 1 = n)
    (hok : ∀ d b', M b ds = .ok d b' → own = true ∧ ∀ H' Ω', Ext H Ω H' Ω' → RepS K H' Ω' σ (δ.set i b'.sl) → ∀ v, Rep K H' Ω' d v → Q v H')
    (hown : ∀ es b', M b ds = .own es b' → own = true ∧ ∀ H' Ω', Ext H Ω H' Ω' → RepS K H' Ω' σ (δ.set i b'.sl) → ∀ v, RepDV K H' Ω' σ (.own es) v → Q v H')
    (her : ∀ c, M b ds = .er c → ∀ H' Ω', Ext H Ω H' Ω' → Trk H' Ω' → RepS K H' Ω' σ δ → Ex (ce c) none H') (hun : M b ds ≠ .un) : spW K ce n M (.ref p :: vs) H Q Ex := by
  refine ⟨by rw [List.length_cons, ← r.length]; exact hn, ?_⟩
  cases q3 : M b ds with
  | un => exact absurd q3 hun
  | er c =>
    have hls : ∀ x, Ω x = none → seen Ω a1 a2 a3 none x = none := seen_less (.inl rfl)
    refine ⟨seen Ω a1 a2 a3 none, p, a1, a2, a3, vs, ds, b, trk_seen R hb, rfl, r.less hls, ?_⟩
    rw [q3]
    refine ⟨hb.re hls (seen_pt (.inl rfl)) (seen_pt (.inr (.inl rfl))) (seen_pt (.inr (.inr rfl))), fun H' Ω' e ht => ?_⟩
    have R' := R.homeR hb e ht
    exact her c q3 H' _ (Ext.home hb e (.inl rfl)) R'.trk R'
  | ok d b' =>
    obtain ⟨ho, h⟩ := hok d b' q3
    subst ho
    have hls : ∀ x, Ω x = none → seen Ω a1 a2 a3 (some 2) x = none := seen_less (.inr fun x hx => by rw [(hb.lab hx).1]; exact Option.some_ne_none _)
    refine ⟨seen Ω a1 a2 a3 (some 2), p, a1, a2, a3, vs, ds, b, trk_seen R hb, rfl, r.less hls, ?_⟩
    rw [q3]
    refine ⟨⟨hb.re hls (seen_pt (.inl rfl)) (seen_pt (.inr (.inl rfl))) (seen_pt (.inr (.inr rfl))), hne rfl⟩, fun H' Ω' e ht hb' v rv => ?_⟩
    refine h H' _ (Ext.home hb e (.inr ⟨i + 1, rfl⟩)) (R.homeW hb (hne rfl) hσ e ht hb') v (Rep.less (home_less fun x hx q => ?_) rv)
    obtain ⟨c1, c2, c3, hc, _⟩ := ObAt.pt hb'
    obtain ⟨rfl, rfl, rfl⟩ := (BedAt.ext (Ext.home hb e (.inr ⟨i + 1, rfl⟩)) hb.bed).inj hc.bed
    rw [(hc.lab hx).1] at q; cases q
  | own es b' =>
    obtain ⟨ho, h⟩ := hown es b' q3
    subst ho
    have hls : ∀ x, Ω x = none → seen Ω a1 a2 a3 (some 2) x = none := seen_less (.inr fun x hx => by rw [(hb.lab hx).1]; exact Option.some_ne_none _)
    refine ⟨seen Ω a1 a2 a3 (some 2), p, a1, a2, a3, vs, ds, b, trk_seen R hb, rfl, r.less hls, ?_⟩
    rw [q3]
    refine ⟨⟨hb.re hls (seen_pt (.inl rfl)) (seen_pt (.inr (.inl rfl))) (seen_pt (.inr (.inr rfl))), hne rfl⟩, fun H' Ω' e ht hb' v ⟨a, ws, z1, z2, z3, z4⟩ => ?_⟩
    obtain ⟨c1, c2, c3, hc, _⟩ := ObAt.pt hb'
    obtain ⟨rfl, rfl, rfl⟩ := (BedAt.ext (Ext.home hb e (.inr ⟨i + 1, rfl⟩)) hb.bed).inj hc.bed
    have ha : ¬ isPt a1 a2 a3 a := fun hx => by rw [(hc.lab hx).1] at z3; cases z3
    exact h H' _ (Ext.home hb e (.inr ⟨i + 1, rfl⟩)) (R.homeW hb (hne rfl) hσ e ht hb') v ⟨a, ws, z1, z2, by rw [home_ne ha]; exact back_one z3, z4.less (home_less fun x hx q => by rw [(hc.lab hx).1] at q; cases q)⟩
end
end DL
namespace DL
open PySem PySem.Spec PyProof.Rows L2
structure BedTx (K : PySem.W.Frag) (C : Addr) : Prop where
  ns : PySem.W.nsIn K mainGlobals "Bed" = some (some (.ref C))
  cl : Cls K C
  n1 : NoAttr K C "borne"
  n2 : NoAttr K C "knitted"
  n3 : NoAttr K C "past"
noncomputable abbrev bflds (a1 a2 a3 : Addr) : List (Str × V) := [("borne", .ref a1), ("knitted", .ref a2), ("past", .ref a3)]
theorem lk_miss {m k : Str} {v : V} {l : List (Str × V)} (h : (m == k) = false) : ((k, v) :: l).lookup m = l.lookup m := by rw [List.lookup_cons, h]
theorem lk_hit {k : Str} {v : V} {l : List (Str × V)} : ((k, v) :: l).lookup k = some v := by rw [List.lookup_cons, beq_self_eq_true]
theorem bf1 {a1 a2 a3 : Addr} : (bflds a1 a2 a3).lookup ("borne" : Str) = some (V.ref a1) := lk_hit
theorem bf2 {a1 a2 a3 : Addr} : (bflds a1 a2 a3).lookup ("knitted" : Str) = some (V.ref a2) := by rw [lk_miss (by decide +kernel)]; exact lk_hit
theorem bf3 {a1 a2 a3 : Addr} : (bflds a1 a2 a3).lookup ("past" : Str) = some (V.ref a3) := by rw [lk_miss (by decide +kernel), lk_miss (by decide +kernel)]; exact lk_hit
noncomputable def NoFld (m : Str) : Prop := (m == ("borne" : Str)) = false ∧ (m == ("knitted" : Str)) = false ∧ (m == ("past" : Str)) = false
theorem NoFld.none {m : Str} (h : NoFld m) (a1 a2 a3 : Addr) : (bflds a1 a2 a3).lookup m = none := by rw [lk_miss h.1, lk_miss h.2.1, lk_miss h.2.2]; rfl
theorem BedAt.ins {K : PySem.W.Frag} {H : Hp} {C p a1 a2 a3 : Addr} (T : BedTx K C) (h : BedAt K H p a1 a2 a3) : ∃ dx, H p = some (.ins C dx (bflds a1 a2 a3)) := by
  obtain ⟨C', dx, h1, h2⟩ := h
  rw [T.ns] at h1
  cases h1
  exact ⟨dx, h2⟩
section
variable {K : PySem.W.Frag} {E : Str → Hp → Prop} {mg : Str → Option Value} {C : Addr} {m : Str} {i n : Nat} {ce : Str → Value} {Ex : XK} {t : TA} {fa : DM (List DV)}
theorem de_methR {M : List D → Ro} (T : BedTx K C) (hm : NoFld m) (ha : DA K E t fa) : DE K E (tMeth C m (spP K ce n M) [] Ex (tVar i) t) (fCallR i n fa M) := by
  intro σ H δ Ω R Q h
  unfold fCallR at h
  split at h
  · rename_i hs
    obtain ⟨⟨b0, own0⟩, hb0⟩ := Option.isSome_iff_exists.mp hs
    obtain ⟨p, a1, a2, a3, e0, hp, _⟩ := bed_slot R hb0
    obtain ⟨dx, hi⟩ := hp.bed.ins T
    refine ⟨.ref p, e0, p, dx, _, rfl, hi, hm.none _ _ _, ?_⟩
    refine ha.use R h fun as vs δ1 H1 Ω1 _ s1 R1 r1 h1 => ?_
    (try dsimp only at h1)
    split at h1
    · rename_i ds b own q1 q2
      split at h1
      · rename_i hn
        obtain ⟨p', c1, c2, c3, e1, hp1, _⟩ := bed_slot R1 q2
        rw [e0] at e1
        cases e1
        rw [List.append_nil]
        exact callR_core R1 hp1 (r1.vals q1) hn h1
      · exact h1.elim
    · exact h1.elim
  · exact h.elim
theorem callW_use {M : Bd → List D → Rw} {σ : St} {H : Hp} {δ : DSt} {Ω : Om} {Q : VK} {b : Bd} {own : Bool} {p a1 a2 a3 : Addr} {vs : List V} {ds : List D} (hE : ∀ c H', E c H' → Ex (ce c) none H') (R : RepS K H Ω σ δ) (hσ : σ[i]? = some (some (.ref p)))
    (hb : PtAt K H Ω (if own then some (i + 2) else none) p a1 a2 a3 b) (hne : own = true → a2 ≠ a3) (r : Reps K H Ω ds vs) (hn : ds.length + 1 = n) (h : Wg E H Ω (PV K σ Q) (rwW i own (M b ds) δ)) : spW K ce n M (.ref p :: vs) H Q Ex := by
  refine callW_core R hσ hb hne r hn (fun d b' q => ?_) (fun es b' q => ?_) (fun c q H' Ω' e t R' => ?_) fun q => ?_
  · rw [q] at h
    unfold rwW at h
    dsimp only at h
    split at h
    · rename_i ho; exact ⟨ho, fun H' Ω' e R' v rv => h H' Ω' e R' v rv⟩
    · exact h.elim
  · rw [q] at h
    unfold rwW at h
    dsimp only at h
    split at h
    · rename_i ho; exact ⟨ho, fun H' Ω' e R' v rv => h H' Ω' e R' v rv⟩
    · exact h.elim
  · rw [q] at h
    exact hE c H' (h H' Ω' e t)
  · rw [q] at h
    exact h
theorem de_methW {M : Bd → List D → Rw} (T : BedTx K C) (hm : NoFld m) (hE : ∀ c H', E c H' → Ex (ce c) none H') (ha : DA K E t fa) : DE K E (tMeth C m (spW K ce n M) [] Ex (tVar i) t) (fCallW i n fa M) := by
  intro σ H δ Ω R Q h
  unfold fCallW at h
  split at h
  · rename_i hs
    obtain ⟨⟨b0, own0⟩, hb0⟩ := Option.isSome_iff_exists.mp hs
    obtain ⟨p, a1, a2, a3, e0, hp, _⟩ := bed_slot R hb0
    obtain ⟨dx, hi⟩ := hp.bed.ins T
    refine ⟨.ref p, e0, p, dx, _, rfl, hi, hm.none _ _ _, ?_⟩
    refine ha.use R h fun as vs δ1 H1 Ω1 _ s1 R1 r1 h1 => ?_
    (try dsimp only at h1)
    split at h1
    · rename_i ds b own q1 q2
      split at h1
      · rename_i hn
        obtain ⟨p', c1, c2, c3, e1, hp1, hne⟩ := bed_slot R1 q2
        have e2 := e1
        rw [e0] at e1
        cases e1
        rw [List.append_nil]
        exact callW_use hE R1 e2 hp1 hne (r1.vals q1) hn h1
      · exact h1.elim
    · exact h1.elim
  · exact h.elim
theorem de_funW {M : Bd → List D → Rw} (hE : ∀ c H', E c H' → Ex (ce c) none H') (ha : DA K E t fa) : DE K E (tCall (spW K ce n M) [] Ex (tCons (tVar i) t)) (fCallW i n fa M) := by
  intro σ H δ Ω R Q h
  unfold fCallW at h
  split at h
  · rename_i hs
    obtain ⟨⟨b0, own0⟩, hb0⟩ := Option.isSome_iff_exists.mp hs
    obtain ⟨p, a1, a2, a3, e0, hp, _⟩ := bed_slot R hb0
    refine ⟨.ref p, e0, ?_⟩
    refine ha.use R h fun as vs δ1 H1 Ω1 _ s1 R1 r1 h1 => ?_
    (try dsimp only at h1)
    split at h1
    · rename_i ds b own q1 q2
      split at h1
      · rename_i hn
        obtain ⟨p', c1, c2, c3, e1, hp1, hne⟩ := bed_slot R1 q2
        have e2 := e1
        rw [e0] at e1
        cases e1
        rw [List.append_nil]
        exact callW_use hE R1 e2 hp1 hne (r1.vals q1) hn h1
      · exact h1.elim
    · exact h1.elim
  · exact h.elim
end
structure MethP (P : Program) (w : World) (K : PySem.W.Frag) (mg : Str → Option Value) (base : Heap) (C : Addr) (k : Nat) (m : Str) (n : Nat) (M : List D → Ro) : Prop where
  ex : ∃ (f : Addr) (fd : FuncData) (ps : List Str), FnOk P w K mg base CX0 k f fd ps (spP K (fun _ => .none) n M) ∧ Meth K C m f ∧ Binds K fd ps []
structure MethW (P : Program) (w : World) (K : PySem.W.Frag) (mg : Str → Option Value) (base : Heap) (C : Addr) (k : Nat) (m : Str) (n : Nat) (M : Bd → List D → Rw) : Prop where
  ex : ∃ (f : Addr) (fd : FuncData) (ps : List Str), FnOk P w K mg base CX0 k f fd ps (spW K (fun _ => .none) n M) ∧ Meth K C m f ∧ Binds K fd ps []
structure MethX (P : Program) (w : World) (K : PySem.W.Frag) (mg : Str → Option Value) (base : Heap) (C : Addr) (k : Nat) (m : Str) (n : Nat) (M : Bd → List D → Rw) : Prop where
  ex : ∃ (f : Addr) (fd : FuncData) (ps : List Str), FnOk P w K mg base (Fly P w) k f fd ps (spW K (ceOf mg) n M) ∧ Meth K C m f ∧ Binds K fd ps []
structure DefW (P : Program) (w : World) (K : PySem.W.Frag) (mg : Str → Option Value) (base : Heap) (k : Nat) (x : Str) (n : Nat) (M : Bd → List D → Rw) : Prop where
  ex : ∃ (f : Addr) (fd : FuncData) (ps : List Str), FnOk P w K mg base CX0 k f fd ps (spW K (fun _ => .none) n M) ∧ mg x = some (.ref f) ∧ PySem.W.keepIn K (.ref f) = true ∧ Binds K fd ps []
section
variable {X : Cx} {E : Str → Hp → Prop} {E0 : XK} {pos apos p : Pos} {e : Expr} {es : List Expr} {C : Addr} {k n : Nat} {x m : Str} {r : DM (List DV)}
theorem ped_methR (i : Nat) {M : List D → Ro} {pl : Sem Bool} (T : BedTx X.K C) (F : MethP X.prog X.w X.K X.mg X.base C k m n M) (hr : Room k X.A) (ha : PAD X E (e :: es) r) (hf : NoFld m := by exact ⟨by decide +kernel, by decide +kernel, by decide +kernel⟩)
    (hN : X.N[i]? = some x := by rfl) (hv : Vis X.env.scope x := by first | exact Or.inl rfl | exact Or.inr (Or.inl rfl) | exact Or.inr (Or.inr rfl)) (hd : (x == ("__debug__" : Str)) = false := by decide) (hcd : (x == ("__classdict__" : Str)) = false := by decide)
    (hst : starEach (e :: es) X.env = (false, eval e X.env) :: starEach es X.env := by rfl) (hpl : (backTo pos (starEach es X.env)).any (·.1) = false := by rfl)
    (ht : eval (.Call (.Attribute (.Name x p) m apos) (e :: es) [] pos) X.env = (do
      let ov ← eval (.Name x p) X.env
      standAt apos.atName
      let (f, first) ← holding [ov] (getMethod ov m pl)
      callWith pos f first (backTo pos (starEach (e :: es) X.env)) (backToKw pos (keywordEach [] X.env))) := by rfl) :
    PED X E (.Call (.Attribute (.Name x p) m apos) (e :: es) [] pos) (fCallR i n r M) := by
  obtain ⟨f, fd, ps, F, hm, b⟩ := F.ex
  obtain ⟨t, q, d⟩ := ha
  exact ⟨_, pe_meth (pl := pl) (pv i hN hv hd hcd) T.cl hm F hr b .nil pass0 q hst hpl ht, de_methR T hf d⟩
theorem ped_methR0 (i : Nat) {M : List D → Ro} {pl : Sem Bool} (T : BedTx X.K C) (F : MethP X.prog X.w X.K X.mg X.base C k m n M) (hr : Room k X.A) (hf : NoFld m := by exact ⟨by decide +kernel, by decide +kernel, by decide +kernel⟩)
    (hN : X.N[i]? = some x := by rfl) (hv : Vis X.env.scope x := by first | exact Or.inl rfl | exact Or.inr (Or.inl rfl) | exact Or.inr (Or.inr rfl)) (hd : (x == ("__debug__" : Str)) = false := by decide) (hcd : (x == ("__classdict__" : Str)) = false := by decide)
    (ht : eval (.Call (.Attribute (.Name x p) m apos) [] [] pos) X.env = (do
      let ov ← eval (.Name x p) X.env
      standAt apos.atName
      let (f, first) ← holding [ov] (getMethod ov m pl)
      callWith pos f first (backTo pos (starEach [] X.env)) (backToKw pos (keywordEach [] X.env))) := by rfl) :
    PED X E (.Call (.Attribute (.Name x p) m apos) [] [] pos) (fCallR i n fNil M) := by
  obtain ⟨f, fd, ps, F, hm, b⟩ := F.ex
  exact ⟨_, pe_meth0 (pl := pl) (pv i hN hv hd hcd) T.cl hm F hr b .nil pass0 ht, de_methR T hf da_nil⟩
theorem ped_funW (i : Nat) {M : Bd → List D → Rw} {y : Str} {p2 : Pos} (F : DefW X.prog X.w X.K X.mg X.base k x n M) (hr : Room k X.A) (ha : PAD X EN es r) (hN : X.N[i]? = some y := by rfl) (hv : Vis X.env.scope y := by first | exact Or.inl rfl | exact Or.inr (Or.inl rfl) | exact Or.inr (Or.inr rfl)) (hd : (y == ("__debug__" : Str)) = false := by decide) (hcd : (y == ("__classdict__" : Str)) = false := by decide)
    (hg : Gl X x := by rfl) (hdb : (x == ("__debug__" : Str)) = false := by decide) (he : starEach (.Name y p2 :: es) X.env = (false, eval (.Name y p2) X.env) :: starEach es X.env := by rfl) (hpl : (backTo pos (starEach es X.env)).any (·.1) = false := by rfl) :
    PED X EN (.Call (.Name x p) (.Name y p2 :: es) [] pos) (fCallW i n r M) := by
  obtain ⟨fa, fd, ps, F, hm, kp, b⟩ := F.ex
  obtain ⟨t, q, d⟩ := ha
  exact ⟨_, pe_call F hr hg hm kp b .nil pass0 (pa_cons (pv i hN hv hd hcd) q he) hdb he hpl, de_funW (fun _ _ z => z.elim) d⟩
end
end DL
namespace L2
open PySem PySem.Spec PyProof.Rows
section
variable {X : Cx}
theorem op_catT0 : OpR X (binaryOp .Add) (fun x y H Q => ∃ a b ys, x = .ref a ∧ y = .ref b ∧ SqT X.K H a [] ∧ SqT X.K H b ys ∧ Q (.ref b) H) := by
  intro pins s σ H x y v u Q I rx ry h
  obtain ⟨a, b, ys, rfl, rfl, ha, hb, q⟩ := h
  cases rx
  cases ry
  obtain ⟨its, r1, p1, _⟩ := I.tuple ha
  obtain ⟨its2, r2, p2, _⟩ := I.tuple hb
  have hn : its = [] := r1.nil_iff.mpr rfl
  subst hn
  obtain ⟨⟨cls, dd, data, sl⟩, ho, hc, n, hd⟩ := id p1
  obtain ⟨⟨cls2, dd2, data2, sl2⟩, ho2, hc2, n2, hd2⟩ := id p2
  simp only at hc hd hc2 hd2
  subst hc hd hc2 hd2
  exact concat_meets ⟨_, ho, rfl⟩ ⟨_, ho2, rfl⟩ noFill_tuple_add seq_tuple_add PySem.F.slot_tuple_add PySem.F.entry_tuple_add (PySem.F.args_tuple_add_2 _ _) (tuple_addW0 a b _ _ n n2 dd dd2 sl sl2 rfl) ⟨ho, ho2, ⟨.ref b, H, I, rfl, q⟩⟩
theorem call_abs1 : CallR X (.builtin "abs") (fun xs H Q => ∃ i, xs = [.int i] ∧ Q (.int (if i < 0 then -i else i)) H) := by
  intro pins s σ H xs us Q I r h
  obtain ⟨i, rfl, q⟩ := h
  obtain ⟨u, rfl, t, rfl⟩ := vals1 r
  exact call_abs_int fun u tk => ⟨.int _, H, I.tok tk, ⟨_, rfl⟩, q⟩
noncomputable def tabDS (kvs : List (Str × Str)) : List (Str × KTD.Dat) := kvs.map fun p => (p.1, KTD.Dat.flat (.str p.2))
noncomputable def TabKS (K : PySem.W.Frag) (a : Addr) (kvs : List (Str × Str)) : Prop :=
  KTD.tabLook (KTD.datLooks fun b => K.lookup b) (fun b => K.lookup b) a (tabDS kvs) = true
noncomputable def tabAtS (k : Str) : List (Str × Str) → Option Str
  | [] => none
  | (x, n) :: r => if decide (k = x) = true then some n else tabAtS k r
theorem tab_keysS (k : Str) : ∀ kvs : List (Str × Str), KTD.inKeys k (tabDS kvs) = (tabAtS k kvs).isSome
  | [] => rfl
  | (x, n) :: r => by
    have ih := tab_keysS k r
    change (decide (k = x) || KTD.inKeys k (tabDS r)) = (if decide (k = x) = true then some n else tabAtS k r).isSome
    rw [ih]
    cases decide (k = x) <;> rfl
theorem TabKS.here {K : PySem.W.Frag} {a : Addr} {kvs : List (Str × Str)} {s : Shared} (T : TabKS K a kvs) (x : K.In s.heap) : KTD.Here s.heap s.heap a (tabDS kvs) := ⟨PySem.W.kt_text_in x T, fun _ _ e => e⟩
theorem each_tabS {h : Heap} {k : Str} {P : Value → Prop} {n : Str} : ∀ {kvs : List (Str × Str)}, tabAtS k kvs = some n → (∀ t, P (.str n t)) → KTD.EachL h k P (tabDS kvs)
  | [], e, _ => by cases e
  | (x, m) :: r, e, hp => by
    have e : (if decide (k = x) = true then some m else tabAtS k r) = some n := e
    by_cases hx : k = x
    · rw [if_pos (decide_eq_true hx)] at e
      cases e
      exact KTD.eachL_hit hx (KTD.opened_str hp)
    · rw [if_neg (by simp [hx])] at e
      exact KTD.eachL_miss hx (each_tabS e hp)
theorem ix_tabS : IxR X (fun x y H Q => ∃ k a kvs n, x = .ref a ∧ y = .str k ∧ TabKS X.K a kvs ∧ tabAtS k kvs = some n ∧ Q (.str n) H) := by
  intro value slice pins s σ H x y v u Q I rx ry h hs
  obtain ⟨k, a, kvs, n, rfl, rfl, T, e, q⟩ := h
  obtain ⟨t, rfl⟩ := ry
  cases rx
  refine KTD.item_textA (T.here I.kIn) ?_ (by rw [tab_keysS, e]; rfl) (each_tabS e fun t' => ⟨.str n, H, I.tok _, ⟨_, rfl⟩, q⟩) hs
  unfold tabDS
  rw [List.all_map]
  exact List.all_eq_true.mpr fun _ _ => rfl
end
end L2
namespace L2
open PySem PySem.Spec PyProof.Rows
section
variable {X : Cx}
end
end L2
namespace DL
open PySem PySem.Spec PyProof.Rows L2
noncomputable def fFld (i j : Nat) : DM DV := fun δ => match δ[i]? with
  | some (.ob _ _ _ _) => .ok (.fld i j) δ
  | some (.sh (.obj _ _ as bs)) => if j = 1 then .ok (.val (.lst as)) δ else .ok (.val (.lst bs)) δ
  | _ => .un
section
variable {X : Cx} {E : Str → Hp → Prop} {pos apos cpos p : Pos} {e e1 e2 : Expr} {f f1 f2 : DM DV} {C : Addr} {x : Str} {mp : List Nat}
theorem ped_knitted (i : Nat) (T : BedTx X.K C) (hN : X.N[i]? = some x := by rfl) (hv : Vis X.env.scope x := by first | exact Or.inl rfl | exact Or.inr (Or.inl rfl) | exact Or.inr (Or.inr rfl)) (hd : (x == ("__debug__" : Str)) = false := by decide) (hcd : (x == ("__classdict__" : Str)) = false := by decide)
    (hb : attributeBase (.Name x p) "knitted" X.env (eval (.Name x p) X.env) = eval (.Name x p) X.env := by rfl) : PED X E (.Attribute (.Name x p) "knitted" pos) (fFld i 1) := by
  refine ⟨_, pe_fld (pv i hN hv hd hcd) hb, fun σ H δ Ω R Q h => ?_⟩
  unfold fFld at h
  split at h
  · rename_i ks vs as bs hs
    obtain ⟨q, e0, ho⟩ := R.sl i _ hs
    obtain ⟨a1, a2, a3, kvs, xs, ys, hb, h2⟩ := ho
    obtain ⟨dx, hi⟩ := hb.ins T
    exact ⟨.ref q, join_some e0, q, C, dx, _, .ref a2, rfl, hi, T.cl, T.n2, bf2, h.now R ⟨q, a1, a2, a3, join_some e0, hb, .inl ⟨rfl, rfl⟩⟩⟩
  · rename_i ks vs as bs hs
    obtain ⟨v, e0, hv⟩ := R.sl i _ hs
    obtain ⟨q, a1, a2, a3, kvs, xs, ys, z0, hb, z1, z2, z3, z4, z5, z6, z7⟩ := (show ∃ p a1 a2 a3 kvs xs ys, _ from hv)
    subst z0
    obtain ⟨dx, hi⟩ := hb.ins T
    rw [if_pos rfl] at h
    exact ⟨.ref q, join_some e0, q, C, dx, _, .ref a2, rfl, hi, T.cl, T.n2, bf2, h.now R (show ∃ a vs, _ from ⟨a2, xs, rfl, ⟨.inl z2.1, z2.2⟩, z6⟩)⟩
  · exact h.elim
theorem ped_past (i : Nat) (T : BedTx X.K C) (hN : X.N[i]? = some x := by rfl) (hv : Vis X.env.scope x := by first | exact Or.inl rfl | exact Or.inr (Or.inl rfl) | exact Or.inr (Or.inr rfl)) (hd : (x == ("__debug__" : Str)) = false := by decide) (hcd : (x == ("__classdict__" : Str)) = false := by decide)
    (hb : attributeBase (.Name x p) "past" X.env (eval (.Name x p) X.env) = eval (.Name x p) X.env := by rfl) : PED X E (.Attribute (.Name x p) "past" pos) (fFld i 2) := by
  refine ⟨_, pe_fld (pv i hN hv hd hcd) hb, fun σ H δ Ω R Q h => ?_⟩
  unfold fFld at h
  split at h
  · rename_i ks vs as bs hs
    obtain ⟨q, e0, ho⟩ := R.sl i _ hs
    obtain ⟨a1, a2, a3, kvs, xs, ys, hb, h2⟩ := ho
    obtain ⟨dx, hi⟩ := hb.ins T
    exact ⟨.ref q, join_some e0, q, C, dx, _, .ref a3, rfl, hi, T.cl, T.n3, bf3, h.now R ⟨q, a1, a2, a3, join_some e0, hb, .inr ⟨rfl, rfl⟩⟩⟩
  · rename_i ks vs as bs hs
    obtain ⟨v, e0, hv⟩ := R.sl i _ hs
    obtain ⟨q, a1, a2, a3, kvs, xs, ys, z0, hb, z1, z2, z3, z4, z5, z6, z7⟩ := (show ∃ p a1 a2 a3 kvs xs ys, _ from hv)
    subst z0
    obtain ⟨dx, hi⟩ := hb.ins T
    rw [if_neg (by decide)] at h
    exact ⟨.ref q, join_some e0, q, C, dx, _, .ref a3, rfl, hi, T.cl, T.n3, bf3, h.now R (show ∃ a vs, _ from ⟨a3, ys, rfl, ⟨.inl z3.1, z3.2⟩, z7⟩)⟩
  · exact h.elim
noncomputable def fTru (f : DM DV) : DM Bool := (fN f).bd fun a δ => match res δ a with
  | some (.lst ds) => .ok (!ds.isEmpty) δ
  | some (.tup ds) => .ok (!ds.isEmpty) δ
  | _ => .un
theorem reps_empty {K : PySem.W.Frag} {H : Hp} {Ω : Om} {ds : List D} {vs : List V} (r : Reps K H Ω ds vs) : vs.isEmpty = ds.isEmpty := by
  have := r.length
  cases ds <;> cases vs <;> simp at this <;> rfl
theorem ptd_tru (ha : PED X E e f) (he : ∀ whole, isTrue e X.env whole = (do let v ← whole; standAt e.pos; holding [v] (truthy v)) := by intro _; rfl) : PTD X E e (fTru f) := by
  obtain ⟨t, q, d⟩ := ha
  refine ⟨_, pt_truth q he, fun σ H δ Ω R Q h => ?_⟩
  refine d.use R h fun a y δ1 H1 Ω1 _ s1 R1 r1 h1 => ?_
  (try dsimp only at h1)
  split at h1
  · rename_i ds q1
    obtain ⟨b, vs, z1, z2, z3⟩ := r1.res R1 q1
    subst z1
    exact ⟨_, .inl ⟨vs, .inl z2, rfl⟩, by rw [reps_empty z3]; exact h1.nowB R1⟩
  · rename_i ds q1
    obtain ⟨b, vs, z1, z2, z3⟩ := (show ∃ a vs, _ from r1.res R1 q1)
    subst z1
    exact ⟨_, .inr (.inl ⟨vs, z2, rfl⟩), by rw [reps_empty z3]; exact h1.nowB R1⟩
  · exact h1.elim
noncomputable def fKey (fa : DM (List DV)) : DM DV := fa.bd fun as δ => match valsOf as with
  | some [.str r, .int n] => .ok (.val (.key r n)) δ
  | _ => .un
theorem ped_key {es : List Expr} {r : DM (List DV)} {k : Nat} (h : PAD X E es r) : PED X E (.Tuple es k pos) (fKey r) := by
  obtain ⟨t, q, d⟩ := h
  refine ⟨_, pe_tup q, fun σ H δ Ω R Q h => ?_⟩
  refine d.use R h fun as vs δ1 H1 Ω1 _ s1 R1 r1 h1 => ?_
  (try dsimp only at h1)
  split at h1
  · rename_i rr nn q1
    have rv := r1.vals q1
    obtain ⟨v1, r2, z1, z2, z3⟩ := (show ∃ v r, _ from rv)
    obtain ⟨v2, r3, z4, z5, z6⟩ := (show ∃ v r, _ from z3)
    cases (show r3 = [] from z6)
    cases (show v1 = .str rr from z2)
    cases (show v2 = .int nn from z5)
    subst z4 z1
    refine ⟨by change 2 ≤ sizeLine; decide, fun p hp => ?_⟩
    exact h1 _ Ω1 (.alloc hp R1.trk) (R1.alloc hp) _ (show ∃ a, _ from ⟨p, rfl, upd_same⟩)
  · exact h1.elim
end
noncomputable def lookB : List (Str × Int) → List D → Str × Int → Option D
  | k :: ks, v :: vs, q => if k = q then some v else lookB ks vs q
  | _, _, _ => none
noncomputable def replB : List (Str × Int) → List D → Str × Int → D → List D
  | k :: ks, v :: vs, q, d => (if k = q then d else v) :: replB ks vs q d
  | _, vs, _, _ => vs
noncomputable def putKs (ks : List (Str × Int)) (q : Str × Int) : List (Str × Int) := if q ∈ ks then ks else ks ++ [q]
noncomputable def putVs (ks : List (Str × Int)) (vs : List D) (q : Str × Int) (d : D) : List D := if q ∈ ks then replB ks vs q d else vs ++ [d]
theorem keyL_inj {p q : Str × Int} (h : keyL p = keyL q) : p = q := by
  unfold keyL at h
  injection h with h1 h2
  injection h2 with h2
  injection h1 with h1
  injection h2 with h2
  exact Prod.ext h1 h2
section
variable {K : PySem.W.Frag} {H : Hp} {Ω : Om}
theorem look_rep : ∀ {ks : List (Str × Int)} {vs : List D} {kvs : List (List Key × V)} (q : Str × Int), kvs.map (·.1) = ks.map keyL → Reps K H Ω vs (kvs.map (·.2)) →
    (∃ d v, lookB ks vs q = some d ∧ valV kvs (keyL q) = some v ∧ Rep K H Ω d v) ∨ (lookB ks vs q = none ∧ valV kvs (keyL q) = none)
  | [], _, [], _, _, _ => .inr ⟨by unfold lookB; rfl, rfl⟩
  | [], _, _ :: _, _, h, _ => by cases h
  | _ :: _, _, [], _, h, _ => by cases h
  | k :: ks, vs, c :: kvs, q, h, r => by
    rw [List.map_cons, List.map_cons] at h
    injection h with h1 h2
    rw [List.map_cons] at r
    cases vs with
    | nil => cases (show _ = [] from r)
    | cons d vs =>
      obtain ⟨v, r2, z1, z2, z3⟩ := (show ∃ v r, _ from r)
      injection z1 with z1 z4
      subst z1 z4
      by_cases e : k = q
      · subst e
        left
        exact ⟨d, c.2, by unfold lookB; rw [if_pos rfl], valV_pos h1, z2⟩
      · have ne : ¬ c.1 = keyL q := fun z => e (keyL_inj (by rw [← h1]; exact z))
        have hl : lookB (k :: ks) (d :: vs) q = lookB ks vs q := by
          change (if k = q then some d else lookB ks vs q) = _
          rw [if_neg e]
        rw [hl, valV_neg ne]
        exact look_rep q h2 z3
theorem any_key {q : Str × Int} : ∀ {ks : List (Str × Int)} {kvs : List (List Key × V)}, kvs.map (·.1) = ks.map keyL → ((kvs.any fun kv => decide (kv.1 = keyL q)) = true ↔ q ∈ ks)
  | [], [], _ => by simp
  | [], _ :: _, h => by cases h
  | _ :: _, [], h => by cases h
  | k :: ks, c :: kvs, h => by
    rw [List.map_cons, List.map_cons] at h
    injection h with h1 h2
    have ih := any_key (q := q) h2
    rw [List.any_cons, Bool.or_eq_true, ih, List.mem_cons]
    constructor
    · rintro (z | z)
      · exact .inl (keyL_inj (by rw [← h1]; exact (of_decide_eq_true z).symm))
      · exact .inr z
    · rintro (z | z)
      · exact .inl (decide_eq_true (by rw [h1, z]))
      · exact .inr z
theorem repl_rep {q : Str × Int} {d : D} {v : V} (rv : Rep K H Ω d v) : ∀ {ks : List (Str × Int)} {vs : List D} {kvs : List (List Key × V)}, kvs.map (·.1) = ks.map keyL → Reps K H Ω vs (kvs.map (·.2)) →
    (kvs.map fun kv => if kv.1 = keyL q then (kv.1, v) else kv).map (·.1) = ks.map keyL ∧ Reps K H Ω (replB ks vs q d) ((kvs.map fun kv => if kv.1 = keyL q then (kv.1, v) else kv).map (·.2))
  | [], vs, [], _, r => ⟨rfl, by cases vs with | nil => exact .nil | cons _ _ => obtain ⟨_, _, z, _⟩ := (show ∃ v r, _ from r); cases z⟩
  | [], _, _ :: _, h, _ => by cases h
  | _ :: _, _, [], h, _ => by cases h
  | k :: ks, vs, c :: kvs, h, r => by
    rw [List.map_cons, List.map_cons] at h
    injection h with h1 h2
    rw [List.map_cons] at r
    cases vs with
    | nil => cases (show _ = [] from r)
    | cons d0 vs =>
      obtain ⟨v0, r2, z1, z2, z3⟩ := (show ∃ v r, _ from r)
      injection z1 with z1 z4
      subst z1 z4
      obtain ⟨i1, i2⟩ := repl_rep rv h2 z3
      rw [List.map_cons, List.map_cons, List.map_cons, List.map_cons, i1]
      by_cases e : k = q
      · subst e
        rw [if_pos h1]
        refine ⟨by rw [h1], ?_⟩
        change Reps K H Ω ((if k = k then d else d0) :: replB ks vs k d) _
        rw [if_pos rfl]
        exact .cons rv i2
      · have ne : ¬ c.1 = keyL q := fun z => e (keyL_inj (by rw [← h1]; exact z))
        rw [if_neg ne]
        refine ⟨by rw [h1], ?_⟩
        change Reps K H Ω ((if k = q then d else d0) :: replB ks vs q d) _
        rw [if_neg e]
        exact .cons z2 i2
theorem put_rep {q : Str × Int} {d : D} {v : V} {ks : List (Str × Int)} {vs : List D} {kvs : List (List Key × V)} (rv : Rep K H Ω d v) (h : kvs.map (·.1) = ks.map keyL) (r : Reps K H Ω vs (kvs.map (·.2))) :
    (putK kvs (keyL q) v).map (·.1) = (putKs ks q).map keyL ∧ Reps K H Ω (putVs ks vs q d) ((putK kvs (keyL q) v).map (·.2)) := by
  unfold putK putKs putVs
  by_cases e : q ∈ ks
  · rw [if_pos ((any_key h).mpr e), if_pos e, if_pos e]
    exact repl_rep rv h r
  · rw [if_neg (fun z => e ((any_key h).mp z)), if_neg e, if_neg e, List.map_append, List.map_append, List.map_append]
    exact ⟨by rw [h]; rfl, r.append (.cons rv .nil)⟩
end
noncomputable def fBGet (i : Nat) (f : DM DV) : DM DV := fun δ => if (bedAt δ i).isSome = true then ((fN f).bd fun a δ1 => match res δ1 a, bedAt δ1 i with
  | some (.key r n), some (b, _) => .ok (.val ((lookB b.ks b.vs (r, n)).getD (.tup []))) δ1
  | _, _ => .un) δ else .un
noncomputable def isOb (i : Nat) (δ : DSt) : Bool := match δ[i]? with | some (.ob _ _ _ _) => true | _ => false
noncomputable def fBPut (i : Nat) (f2 f1 : DM DV) : DM Fl := (fN f2).bd fun a2 => match a2 with
  | .val d => fun δ => if isOb i δ then ((fN f1).bd fun a1 δ1 => match res δ1 a1, δ1[i]? with
    | some (.key r n), some (.ob ks vs as bs) => if ks.length < sizeLine then .ok .nx (δ1.set i (.ob (putKs ks (r, n)) (putVs ks vs (r, n) d) as bs)) else .un
    | _, _ => .un) δ else .un
  | _ => fun _ => .un
section
variable {X : Cx} {E : Str → Hp → Prop} {pos apos cpos bpos p p' : Pos} {e e1 e2 : Expr} {f f1 f2 : DM DV} {C : Addr} {x : Str} {mp : List Nat}
theorem ped_bget (i : Nat) {kk : Nat} {tpos : Pos} (T : BedTx X.K C) (hu : X.A.units + 1 < cLine) (he : PED X E e f) (hN : X.N[i]? = some x := by rfl) (hv : Vis X.env.scope x := by first | exact Or.inl rfl | exact Or.inr (Or.inl rfl) | exact Or.inr (Or.inr rfl)) (hd : (x == ("__debug__" : Str)) = false := by decide) (hcd : (x == ("__classdict__" : Str)) = false := by decide)
    (hb : attributeBase (.Name x p) "borne" X.env (eval (.Name x p) X.env) = eval (.Name x p) X.env := by rfl) (hm : M2 X (.Attribute (.Name x p) "borne" bpos) "get" apos e (.Tuple [] kk tpos) cpos := by exact ⟨rfl, rfl, rfl, rfl⟩) :
    PED X E (.Call (.Attribute (.Attribute (.Name x p) "borne" bpos) "get" apos) [e, .Tuple [] kk tpos] [] cpos) (fBGet i f) := by
  obtain ⟨t, q, d⟩ := he
  refine ⟨_, pe_dget2 hu (pe_fld (pv i hN hv hd hcd) hb) q (pe_tup pa_nil) hm, fun σ H δ Ω R Q h => ?_⟩
  unfold fBGet at h
  split at h
  · rename_i hs
    obtain ⟨⟨b0, own0⟩, hb0⟩ := Option.isSome_iff_exists.mp hs
    obtain ⟨pp, a1, a2, a3, e0, hp, _⟩ := bed_slot R hb0
    obtain ⟨dx, hi⟩ := hp.bed.ins T
    obtain ⟨kv0, xs0, ys0, g1, g2, _⟩ := id hp
    refine ⟨.ref pp, e0, pp, C, dx, _, .ref a1, rfl, hi, T.cl, T.n1, bf1, a1, rfl, .inr ⟨kv0, .inl g2.1⟩, ?_⟩
    refine d.use R h fun a y δ1 H1 Ω1 ex0 s1 R1 r1 h1 => ?_
    (try dsimp only at h1)
    split at h1
    · rename_i r n b own q1 q2
      obtain ⟨p2, c1, c2, c3, e1, hp1, _⟩ := bed_slot R1 q2
      rw [e0] at e1
      cases e1
      obtain ⟨ky, z1, z2⟩ := (show ∃ a, _ from r1.res R1 q1)
      subst z1
      refine ⟨by change 0 ≤ sizeLine; exact Nat.zero_le _, fun tp htp => ?_⟩
      obtain ⟨kvs, xs, ys, k1, k2, k3, k4, k5, k6, k7, k8⟩ := hp1
      have ex : Ext H1 Ω1 (upd H1 tp (.tup [])) Ω1 := .alloc htp R1.trk
      have hbed := BedAt.ext ex k1
      obtain ⟨C', dx', w1, w2⟩ := k1
      have e13 : c1 = a1 := by
        have hi1 := ex0.keep pp _ hi (.inl rfl)
        rw [hi1] at w2
        cases w2
        rfl
      subst e13
      refine ⟨_, DGet.t (b := ky) (k := keyL (r, n)) (kvs := kvs) (by rw [upd_ne (ne_of_none k2.1 htp)]; exact k2.1) (by rw [upd_ne (ne_of_none z2 htp)]; exact z2), ?_⟩
      have tr : Rep X.K (upd H1 tp (.tup [])) Ω1 (.tup []) (.ref tp) := (show ∃ a vs, _ from ⟨tp, [], rfl, SqT.of upd_same, .nil⟩)
      rcases look_rep (r, n) k5 (k6.ext ex) with ⟨dd, v, l1, l2, l3⟩ | ⟨l1, l2⟩
      · rw [l1] at h1
        rw [l2]
        exact h1 _ Ω1 ex (R1.alloc htp) v l3
      · rw [l1] at h1
        rw [l2]
        exact h1 _ Ω1 ex (R1.alloc htp) _ tr
    · exact h1.elim
  · exact h.elim
theorem ob_part {K : PySem.W.Frag} {H : Hp} {Ω : Om} {σ : St} {δ : DSt} {i : Nat} {ks : List (Str × Int)} {vs as bs : List D} (R : RepS K H Ω σ δ) (h : δ[i]? = some (.ob ks vs as bs)) : ∃ p a1 a2 a3 kvs xs ys, σ[i]? = some (some (.ref p)) ∧ BedAt K H p a1 a2 a3 ∧ (H a1 = some (.dT kvs) ∧ Ω a1 = some (i + 2)) ∧ (H a2 = some (.lst xs) ∧ Ω a2 = some (i + 2)) ∧ (H a3 = some (.lst ys) ∧ Ω a3 = some (i + 2)) ∧ a2 ≠ a3 ∧ kvs.map (·.1) = ks.map keyL ∧ Reps K H Ω vs (kvs.map (·.2)) ∧ Reps K H Ω as xs ∧ Reps K H Ω bs ys := by
  obtain ⟨p, e0, a1, a2, a3, kvs, xs, ys, h⟩ := R.sl i _ h
  exact ⟨p, a1, a2, a3, kvs, xs, ys, join_some e0, h⟩
theorem BedAt.same {K : PySem.W.Frag} {H : Hp} {C p dx a1 a2 a3 c1 c2 c3 : Addr} (h : BedAt K H p c1 c2 c3) (hi : H p = some (.ins C dx (bflds a1 a2 a3))) : c1 = a1 ∧ c2 = a2 ∧ c3 = a3 := by
  obtain ⟨C', dx', w1, w2⟩ := h
  rw [hi] at w2
  cases w2
  exact ⟨rfl, rfl, rfl⟩
theorem psd_bput (i : Nat) {sp : Pos} (T : BedTx X.K C) (hu : X.A.units + 1 < cLine) (h2 : PED X E e2 f2) (h1 : PED X E e1 f1) (hN : X.N[i]? = some x := by rfl) (hv : Vis X.env.scope x := by first | exact Or.inl rfl | exact Or.inr (Or.inl rfl) | exact Or.inr (Or.inr rfl)) (hd : (x == ("__debug__" : Str)) = false := by decide) (hcd : (x == ("__classdict__" : Str)) = false := by decide)
    (hb : attributeBase (.Name x p) "borne" X.env (eval (.Name x p) X.env) = eval (.Name x p) X.env := by rfl) (hsw : swapsWith e2 (some (.Subscript (.Attribute (.Name x p) "borne" bpos) e1 sp)) pos.line X.env = pure false := by rfl) :
    PSD X E mp (.Assign [.Subscript (.Attribute (.Name x p) "borne" bpos) e1 sp] e2 pos) (fBPut i f2 f1) := by
  obtain ⟨t2, q2, d2⟩ := h2
  obtain ⟨t1, q1, d1⟩ := h1
  refine ⟨_, ps_dput hu (pe_fld (pv i hN hv hd hcd) hb) q1 q2 hsw, fun σ H δ Ω R B h => ?_⟩
  refine d2.use R h fun b y δ1 H1 Ω1 _ s1 R1 r1 w1 => ?_
  (try dsimp only at w1)
  split at w1
  · rename_i dd
    split at w1
    · rename_i ho
      unfold isOb at ho
      split at ho
      · rename_i ks0 vs0 as0 bs0 hs0
        obtain ⟨pp, a1, a2, a3, kv0, xs0, ys0, e0, hb0, _⟩ := ob_part R1 hs0
        obtain ⟨dx, hi⟩ := hb0.ins T
        refine ⟨.ref pp, e0, pp, C, dx, _, .ref a1, rfl, hi, T.cl, T.n1, bf1, ?_⟩
        refine d1.use R1 w1 fun a z δ2 H2 Ω2 ex2 s2 R2 r2 w2 => ?_
        (try dsimp only at w2)
        split at w2
        · rename_i r n ks vs as bs hk hs2
          split at w2
          · rename_i hz
            obtain ⟨p2, c1, c2, c3, kvs, xs, ys, e1, k1, k2, k3, k4, k5, k6, k7, k8, k9⟩ := ob_part R2 hs2
            have e1' := e1
            rw [e0] at e1
            cases e1
            obtain ⟨rfl, rfl, rfl⟩ := k1.same (ex2.keep pp _ hi (.inl rfl))
            obtain ⟨ky, z1, z2⟩ := (show ∃ a, _ from r2.res R2 hk)
            subst z1
            have ry : Rep X.K H2 Ω2 dd y := Rep.ext ex2 r1
            have hlen : kvs.length < sizeLine := by
              have := congrArg List.length k6
              rw [List.length_map, List.length_map] at this
              rw [this]; exact hz
            refine ⟨c1, _, rfl, DPut.t (b := ky) (k := keyL (r, n)) k2.1 z2 hlen, ?_⟩
            have ml : ∃ vs, H2 c1 = some vs ∧ fixO vs = false := ⟨_, k2.1, rfl⟩
            have ex : Ext H2 Ω2 (upd H2 c1 (.dT (putK kvs (keyL (r, n)) y))) Ω2 := .putK ml k2.2
            obtain ⟨g1, g2⟩ := put_rep (q := (r, n)) ry k6 k7
            have n12 : c2 ≠ c1 := by rintro rfl; rw [k2.1] at k3; cases k3.1
            have n13 : c3 ≠ c1 := by rintro rfl; rw [k2.1] at k4; cases k4.1
            refine w2 _ Ω2 ex σ (R2.putK ml k2.2 rfl ⟨pp, by rw [e1']; rfl, c1, c2, c3, _, xs, ys, BedAt.ext ex k1, ⟨upd_same, k2.2⟩, ⟨by rw [upd_ne n12]; exact k3.1, k3.2⟩, ⟨by rw [upd_ne n13]; exact k4.1, k4.2⟩, k5, g1, g2.ext ex, k8.ext ex, k9.ext ex⟩) fun _ _ => rfl
          · exact w2.elim
        · exact w2.elim
      · cases ho
    · exact w1.elim
  · exact w1.elim
end
end DL
namespace DL
open PySem PySem.Spec PyProof.Rows L2
noncomputable def fAppK (i : Nat) (f : DM DV) : DM Fl := fun δ => if isOb i δ then ((fN f).bd fun a δ1 => match a, δ1[i]? with
  | .val d, some (.ob ks vs as bs) => if as.length < sizeLine then .ok .nx (δ1.set i (.ob ks vs (as ++ [d]) bs)) else .un
  | _, _ => .un) δ else .un
noncomputable def fAppP (i : Nat) (f : DM DV) : DM Fl := fun δ => if isOb i δ then ((fN f).bd fun a δ1 => match a, δ1[i]? with
  | .val d, some (.ob ks vs as bs) => if bs.length < sizeLine then .ok .nx (δ1.set i (.ob ks vs as (bs ++ [d]))) else .un
  | _, _ => .un) δ else .un
section
variable {X : Cx} {E : Str → Hp → Prop} {pos apos cpos bpos p p' : Pos} {e e1 e2 : Expr} {f f1 f2 : DM DV} {C : Addr} {x : Str} {mp : List Nat}
theorem psd_appK (i : Nat) (T : BedTx X.K C) (he : PED X E e f) (hN : X.N[i]? = some x := by rfl) (hv : Vis X.env.scope x := by first | exact Or.inl rfl | exact Or.inr (Or.inl rfl) | exact Or.inr (Or.inr rfl)) (hd : (x == ("__debug__" : Str)) = false := by decide) (hcd : (x == ("__classdict__" : Str)) = false := by decide)
    (hb : attributeBase (.Name x p) "knitted" X.env (eval (.Name x p) X.env) = eval (.Name x p) X.env := by rfl)
    (hbase : attributeBase (.Attribute (.Name x p) "knitted" bpos) "append" X.env (eval (.Attribute (.Name x p) "knitted" bpos) X.env) = eval (.Attribute (.Name x p) "knitted" bpos) X.env := by rfl)
    (hfew : ((backTo cpos (starEach [e] X.env)).all (fun x => !x.1) && (backToKw cpos (keywordEach [] X.env)).all (fun x => x.1.isSome)
      && decide (([e] : List Expr).length + ([] : List Keyword).length + (if ([] : List Keyword).isEmpty then 0 else 1) < 30)) = true := by rfl)
    (hline : (apos.endLine == cpos.line) = true := by rfl) (hs : starEach [e] X.env = (false, eval e X.env) :: starEach [] X.env := by rfl)
    (hsw : swapsWith (.Call (.Attribute (.Attribute (.Name x p) "knitted" bpos) "append" apos) [e] [] cpos) none pos.line X.env = pure false := by rfl) :
    PSD X E mp (.Expr (.Call (.Attribute (.Attribute (.Name x p) "knitted" bpos) "append" apos) [e] [] cpos) pos) (fAppK i f) := by
  obtain ⟨t, q, d⟩ := he
  refine ⟨_, ps_expr (pe_bm PySem.F.plainAttrs_list PySem.F.slot_list_append PySem.F.type_list_append mt_append (pe_fld (pv i hN hv hd hcd) hb) (pa_cons q pa_nil hs) hbase hfew hline hs rfl) hsw, ?_⟩
  intro σ H δ Ω R B h
  unfold fAppK at h
  split at h
  · rename_i ho
    unfold isOb at ho
    split at ho
    · rename_i ks0 vs0 as0 bs0 hs0
      obtain ⟨pp, a1, a2, a3, kv0, xs0, ys0, e0, hb0, _, g2, _⟩ := ob_part R hs0
      obtain ⟨dx, hi⟩ := hb0.ins T
      refine ⟨.ref pp, e0, pp, C, dx, _, .ref a2, rfl, hi, T.cl, T.n2, bf2, .inl ⟨rfl, xs0, SqL.of g2.1⟩, ?_⟩
      refine d.use R h fun a y δ2 H2 Ω2 ex2 s2 R2 r2 w2 => ?_
      (try dsimp only at w2)
      split at w2
      · rename_i dd ks vs as bs hs2
        split at w2
        · rename_i hz
          obtain ⟨p2, c1, c2, c3, kvs, xs, ys, e1, k1, k2, k3, k4, k5, k6, k7, k8, k9⟩ := ob_part R2 hs2
          have e1' := e1
          rw [e0] at e1
          cases e1
          obtain ⟨rfl, rfl, rfl⟩ := k1.same (ex2.keep pp _ hi (.inl rfl))
          refine ⟨c2, xs, y, rfl, rfl, k3.1, by rw [← k8.length]; exact hz, ?_⟩
          have ml : ∃ vs, H2 c2 = some vs ∧ fixO vs = false := ⟨_, k3.1, rfl⟩
          have ex : Ext H2 Ω2 (upd H2 c2 (.lst (xs ++ [y]))) Ω2 := .putK ml k3.2
          have n12 : c1 ≠ c2 := by rintro rfl; rw [k2.1] at k3; cases k3.1
          refine w2 _ Ω2 ex σ (R2.putK ml k3.2 rfl ⟨pp, by rw [e1']; rfl, c1, c2, c3, kvs, _, ys, BedAt.ext ex k1, ⟨by rw [upd_ne n12]; exact k2.1, k2.2⟩, ⟨upd_same, k3.2⟩, ⟨by rw [upd_ne k5.symm]; exact k4.1, k4.2⟩, k5, k6, k7.ext ex, (k8.append (.cons r2 .nil)).ext ex, k9.ext ex⟩) fun _ _ => rfl
        · exact w2.elim
      · exact w2.elim
    · cases ho
  · exact h.elim
theorem psd_appP (i : Nat) (T : BedTx X.K C) (he : PED X E e f) (hN : X.N[i]? = some x := by rfl) (hv : Vis X.env.scope x := by first | exact Or.inl rfl | exact Or.inr (Or.inl rfl) | exact Or.inr (Or.inr rfl)) (hd : (x == ("__debug__" : Str)) = false := by decide) (hcd : (x == ("__classdict__" : Str)) = false := by decide)
    (hb : attributeBase (.Name x p) "past" X.env (eval (.Name x p) X.env) = eval (.Name x p) X.env := by rfl)
    (hbase : attributeBase (.Attribute (.Name x p) "past" bpos) "append" X.env (eval (.Attribute (.Name x p) "past" bpos) X.env) = eval (.Attribute (.Name x p) "past" bpos) X.env := by rfl)
    (hfew : ((backTo cpos (starEach [e] X.env)).all (fun x => !x.1) && (backToKw cpos (keywordEach [] X.env)).all (fun x => x.1.isSome)
      && decide (([e] : List Expr).length + ([] : List Keyword).length + (if ([] : List Keyword).isEmpty then 0 else 1) < 30)) = true := by rfl)
    (hline : (apos.endLine == cpos.line) = true := by rfl) (hs : starEach [e] X.env = (false, eval e X.env) :: starEach [] X.env := by rfl)
    (hsw : swapsWith (.Call (.Attribute (.Attribute (.Name x p) "past" bpos) "append" apos) [e] [] cpos) none pos.line X.env = pure false := by rfl) :
    PSD X E mp (.Expr (.Call (.Attribute (.Attribute (.Name x p) "past" bpos) "append" apos) [e] [] cpos) pos) (fAppP i f) := by
  obtain ⟨t, q, d⟩ := he
  refine ⟨_, ps_expr (pe_bm PySem.F.plainAttrs_list PySem.F.slot_list_append PySem.F.type_list_append mt_append (pe_fld (pv i hN hv hd hcd) hb) (pa_cons q pa_nil hs) hbase hfew hline hs rfl) hsw, ?_⟩
  intro σ H δ Ω R B h
  unfold fAppP at h
  split at h
  · rename_i ho
    unfold isOb at ho
    split at ho
    · rename_i ks0 vs0 as0 bs0 hs0
      obtain ⟨pp, a1, a2, a3, kv0, xs0, ys0, e0, hb0, _, _, g3, _⟩ := ob_part R hs0
      obtain ⟨dx, hi⟩ := hb0.ins T
      refine ⟨.ref pp, e0, pp, C, dx, _, .ref a3, rfl, hi, T.cl, T.n3, bf3, .inl ⟨rfl, ys0, SqL.of g3.1⟩, ?_⟩
      refine d.use R h fun a y δ2 H2 Ω2 ex2 s2 R2 r2 w2 => ?_
      (try dsimp only at w2)
      split at w2
      · rename_i dd ks vs as bs hs2
        split at w2
        · rename_i hz
          obtain ⟨p2, c1, c2, c3, kvs, xs, ys, e1, k1, k2, k3, k4, k5, k6, k7, k8, k9⟩ := ob_part R2 hs2
          have e1' := e1
          rw [e0] at e1
          cases e1
          obtain ⟨rfl, rfl, rfl⟩ := k1.same (ex2.keep pp _ hi (.inl rfl))
          refine ⟨c3, ys, y, rfl, rfl, k4.1, by rw [← k9.length]; exact hz, ?_⟩
          have ml : ∃ vs, H2 c3 = some vs ∧ fixO vs = false := ⟨_, k4.1, rfl⟩
          have ex : Ext H2 Ω2 (upd H2 c3 (.lst (ys ++ [y]))) Ω2 := .putK ml k4.2
          have n13 : c1 ≠ c3 := by rintro rfl; rw [k2.1] at k4; cases k4.1
          refine w2 _ Ω2 ex σ (R2.putK ml k4.2 rfl ⟨pp, by rw [e1']; rfl, c1, c2, c3, kvs, xs, _, BedAt.ext ex k1, ⟨by rw [upd_ne n13]; exact k2.1, k2.2⟩, ⟨by rw [upd_ne k5]; exact k3.1, k3.2⟩, ⟨upd_same, k4.2⟩, k5, k6, k7.ext ex, k8.ext ex, (k9.append (.cons r2 .nil)).ext ex⟩) fun _ _ => rfl
        · exact w2.elim
      · exact w2.elim
    · cases ho
  · exact h.elim
end
noncomputable def shOnly : Sl → Sl
  | .sh d => .sh d
  | _ => .no
noncomputable def thaw (i : Nat) (b : Bd) (δ : DSt) : DSt := (δ.map shOnly).set i (.sh b.d)
noncomputable def fThaw (i : Nat) (f : DM DV) : DM DV := fun δ => match δ[i]? with
  | some (.ob ks vs as bs) => (match f (thaw i ⟨ks, vs, as, bs⟩ δ) with
    | .ok (.own ds) _ => if flats ds = true then .ok (.own ds) δ else .un
    | _ => .un)
  | _ => .un
theorem de_thaw {K : PySem.W.Frag} {E : Str → Hp → Prop} {t : TE} {f : DM DV} (i : Nat) (d : DE K E t f) : DE K E t (fThaw i f) := by
  intro σ H δ Ω R Q h
  unfold fThaw at h
  split at h
  · rename_i ks vs as bs hs
    obtain ⟨p, a1, a2, a3, e0, hb, hne⟩ := bed_slot (b := ⟨ks, vs, as, bs⟩) (own := true) R (by unfold bedAt; rw [hs])
    have hls : ∀ x, Ω x = none → seen Ω a1 a2 a3 none x = none := seen_less (.inl rfl)
    have R0 : RepS K H (seen Ω a1 a2 a3 none) σ (thaw i ⟨ks, vs, as, bs⟩ δ) := by
      refine ⟨by unfold thaw; rw [List.length_set, List.length_map]; exact R.len, fun j s q => ?_, trk_seen R hb⟩
      unfold thaw at q
      by_cases hj : i = j
      · subst hj
        have hlt : i < (δ.map shOnly).length := by
          have := (List.getElem?_eq_some_iff.mp q).1
          rwa [List.length_set] at this
        rw [List.getElem?_set_self hlt] at q
        cases q
        exact ⟨.ref p, by rw [e0]; rfl, PtAt.obj (hb.re hls (seen_pt (.inl rfl)) (seen_pt (.inr (.inl rfl))) (seen_pt (.inr (.inr rfl))))⟩
      · rw [List.getElem?_set_ne hj, List.getElem?_map] at q
        obtain ⟨s', q1, q2⟩ := Option.map_eq_some_iff.mp q
        subst q2
        cases s' with
        | sh dd =>
          obtain ⟨v, z1, z2⟩ := R.sl j _ q1
          exact ⟨v, z1, Rep.less hls z2⟩
        | _ => trivial
    split at h
    · rename_i ds δ1 hf
      split at h
      · rename_i hfl
        refine d σ H _ _ R0 Q ?_
        rw [hf]
        intro H' Ω' e R' v ⟨a, ws, z1, z2, z3, z4⟩
        have lab : ∀ x, isPt a1 a2 a3 x → Ω' x = none := fun x hx => by
          obtain ⟨_, u, z2, _⟩ := hb.lab hx
          exact e.new x (seen_pt hx) (by rw [z2]; exact Option.some_ne_none _)
        have ha : ¬ isPt a1 a2 a3 a := fun hx => by rw [lab a hx] at z3; cases z3
        exact h H' _ (Ext.home hb e (.inl rfl)) (R.homeR hb e R'.trk) v ⟨a, ws, z1, z2, by rw [home_ne ha]; exact back_one z3, Reps.flat hfl z4⟩
      · exact h.elim
    · exact h.elim
  · exact h.elim
section
variable {X : Cx} {E : Str → Hp → Prop} {pos p p1 p2 pos2 : Pos} {e a b : Expr} {f g : DM DV} {x : Str} {mp : List Nat}
theorem ped_thaw (i : Nat) (h : PED X E e f) : PED X E e (fThaw i f) := by
  obtain ⟨t, q, d⟩ := h
  exact ⟨t, q, de_thaw i d⟩
noncomputable def gAbs : List D → Option DV
  | [.int i] => some (.val (.int (if i < 0 then -i else i)))
  | _ => none
theorem cb_abs : CallD X (.builtin "abs") gAbs := ⟨_, call_abs1, by
  intro E σ H δ Ω vs ds z Q R r hz h
  unfold gAbs at hz
  split at hz
  · rename_i i
    cases hz
    obtain ⟨v, e, rv⟩ := rBs_one r
    subst e
    cases (show v = .int i from rv)
    exact ⟨i, rfl, h.now R rfl⟩
  · cases hz⟩
noncomputable def gAddT : D → D → Option DV
  | .tup xs, .tup ys => if xs.length + ys.length ≤ sizeLine then some (.val (.tup (xs ++ ys))) else none
  | _, _ => none
theorem bin_addT : BinD X .Add gAddT := ⟨_, op_catT.or op_catT0, by
  intro E σ H δ Ω x y d1 d2 z Q R r1 r2 hz h
  unfold gAddT at hz
  split at hz
  · rename_i xs ys
    split at hz
    · rename_i hl
      cases hz
      obtain ⟨a, vs, e1, e2, e3⟩ := rB_tup r1
      obtain ⟨b, ws, q1, q2, q3⟩ := rB_tup r2
      cases xs with
      | nil =>
        cases (show vs = [] from e3)
        exact .inr ⟨a, b, ws, e1, q1, e2, q2, h.now R (show ∃ a vs, _ from ⟨b, ws, rfl, q2, q3⟩)⟩
      | cons x0 xs =>
        refine .inl ⟨a, b, vs, ws, e1, q1, e2, q2, fun z => ?_, by rw [← e3.length, ← q3.length]; exact hl, fun z => ?_, fun z p hp => h.allocT R hp (e3.append q3)⟩
        · rw [z] at e3
          have := e3.length
          cases this
        · subst z
          cases ys with
          | nil => rw [List.append_nil] at h; exact h.now R (show ∃ a vs, _ from ⟨a, vs, rfl, e2, e3⟩)
          | cons y0 ys => have := q3.length; cases this
    · cases hz
  · cases hz⟩
noncomputable def GlobTS (K : PySem.W.Frag) (mg : Str → Option Value) (x : Str) (kvs : List (Str × Str)) : Prop := ∃ a, mg x = some (.ref a) ∧ TabKS K a kvs
theorem glob_tabS {K : PySem.W.Frag} {mg : Str → Option Value} {x : Str} {a : Addr} {kvs : List (Str × Str)} (h : mg x = some (.ref a)) (T : TabKS K a kvs) : GlobTS K mg x kvs := ⟨a, h, T⟩
noncomputable def gTabIxS (kvs : List (Str × Str)) : D → Option DV
  | .str k => (tabAtS k kvs).map fun n => .val (.str n)
  | _ => none
theorem ped_tabixS {kvs : List (Str × Str)} (hm : GlobTS X.K X.mg x kvs) (ha : PED X E a f) (hg : Gl X x := by rfl) (hd : (x == ("__debug__" : Str)) = false := by decide) (hs : PlainIx a := by intro _ _; rfl) :
    PED X E (.Subscript (.Name x p) a pos) (fUn f (gTabIxS kvs)) := by
  obtain ⟨ad, h1, T⟩ := hm
  obtain ⟨t, q, d⟩ := ha
  refine ⟨_, pe_ix ix_tabS (pe_glob (v := .ref ad) hg h1 rfl hd) q hs, ?_⟩
  intro σ H δ Ω R Q w
  refine d.use R w fun a1 y δ1 H1 Ω1 _ s1 R1 r1 w1 => ?_
  cases q1 : res δ1 a1 with
  | none => rw [q1] at w1; exact w1.elim
  | some d1 =>
    rw [q1] at w1
    cases d1 with
    | str k =>
      unfold gTabIxS at w1
      (try dsimp only at w1)
      cases q2 : tabAtS k kvs with
      | none => rw [q2] at w1; exact w1.elim
      | some n => rw [q2] at w1; exact ⟨k, ad, kvs, n, rfl, r1.res R1 q1, T, q2, Wg.now (d := .val (.str n)) w1 R1 rfl⟩
    | _ => exact w1.elim
end
noncomputable def newB (H : Hp) (C p dx a1 a2 a3 : Addr) : Hp := upd (upd (upd (upd H p (.ins C dx (bflds a1 a2 a3))) a1 (.dT [])) a2 (.lst [])) a3 (.lst [])
noncomputable def spInit (C : Addr) : Sp := fun vs H Q _ => ∃ (p dx : Addr), vs = [.ref p] ∧ H p = some (.ins C dx []) ∧ ∀ a1 a2 a3 : Addr, H a1 = none → H a2 = none → H a3 = none → a1 ≠ a2 → a1 ≠ a3 → a2 ≠ a3 → Q .non (newB H C p dx a1 a2 a3)
structure MkB (P : Program) (w : World) (K : PySem.W.Frag) (mg : Str → Option Value) (base : Heap) (C : Addr) : Prop where
  nm : mg "Bed" = some (.ref C)
  ex : ∃ (f : Addr) (fd : FuncData), FnOk P w K mg base CX0 1 f fd ["self"] (spInit C) ∧ Mk K C f ∧ Binds K fd ["self"] []
noncomputable def fBed (i : Nat) : DM Fl := fun δ => .ok .nx (δ.set i (.ob [] [] [] []))
section
variable {X : Cx} {E : Str → Hp → Prop} {pos p : Pos} {C : Addr} {x : Str} {mp : List Nat}
theorem psd_bed (i : Nat) {pos' cpos : Pos} (hN : X.N.Nodup) (T : BedTx X.K C) (M : MkB X.prog X.w X.K X.mg X.base C) (hr : Room 2 X.A) (hg : Gl X "Bed" := by rfl) (hi : X.N[i]? = some x := by rfl) (hx : Loc X.env.scope x := by first | exact Or.inl rfl | exact Or.inr rfl) (hm : i ∉ mp := by decide)
    (hs : swapsWith (.Call (.Name "Bed" p) [] [] cpos) (some (.Name x pos')) pos.line X.env = pure false := by rfl) (hf : X.fn x = true ∨ X.env.scope.names.lookup x = some .local := by first | exact .inl rfl | exact .inr rfl) :
    PSD X E mp (.Assign [.Name x pos'] (.Call (.Name "Bed" p) [] [] cpos) pos) (fBed i) := by
  obtain ⟨f, fd, F, mk, b⟩ := M.ex
  refine ⟨_, ps_set hN hi hx (pe_make0 mk F hr hg M.nm b .nil pass0) hs hf, fun σ H δ Ω R B h => ?_⟩
  intro q dx n1 n2 ne
  refine ⟨q, dx, rfl, upd_same, fun a1 a2 a3 f1 f2 f3 n12 n13 n23 => ⟨rfl, ?_⟩⟩
  have fr : ∀ {a : Addr}, upd (upd H dx (.own q)) q (.ins C dx []) a = none → a ≠ q ∧ a ≠ dx ∧ H a = none := fun {a} z => by
    have z1 : a ≠ q := by rintro rfl; rw [upd_same] at z; cases z
    rw [upd_ne z1] at z
    have z2 : a ≠ dx := by rintro rfl; rw [upd_same] at z; cases z
    rw [upd_ne z2] at z
    exact ⟨z1, z2, z⟩
  obtain ⟨g1, g2, g3⟩ := fr f1
  obtain ⟨k1, k2, k3⟩ := fr f2
  obtain ⟨l1, l2, l3⟩ := fr f3
  have hh : newB (upd (upd H dx (.own q)) q (.ins C dx [])) C q dx a1 a2 a3 = upd (upd (upd (upd (upd H dx (.own q)) q (.ins C dx (bflds a1 a2 a3))) a1 (.dT [])) a2 (.lst [])) a3 (.lst []) := by
    unfold newB
    congr 3
    funext z
    by_cases hz : z = q
    · subst hz; rw [upd_same, upd_same]
    · rw [upd_ne hz, upd_ne hz, upd_ne hz]
  rw [hh]
  have h1 : (upd H dx (.own q)) q = none := by rw [upd_ne ne.symm]; exact n1
  have h2 : upd (upd H dx (.own q)) q (.ins C dx (bflds a1 a2 a3)) a1 = none := by rw [upd_ne g1, upd_ne g2]; exact g3
  have h3 : upd (upd (upd H dx (.own q)) q (.ins C dx (bflds a1 a2 a3))) a1 (.dT []) a2 = none := by rw [upd_ne n12.symm, upd_ne k1, upd_ne k2]; exact k3
  have h4 : upd (upd (upd (upd H dx (.own q)) q (.ins C dx (bflds a1 a2 a3))) a1 (.dT [])) a2 (.lst []) a3 = none := by rw [upd_ne n23.symm, upd_ne n13.symm, upd_ne l1, upd_ne l2]; exact l3
  have R1 := R.alloc (o := .own q) n2
  have R2 := R1.alloc (o := .ins C dx (bflds a1 a2 a3)) h1
  have R3 := R2.allocK (o := .dT []) (k := i + 1) h2 rfl
  have R4 := R3.allocK (o := .lst []) (k := i + 1) h3 rfl
  have R5 := R4.allocK (o := .lst []) (k := i + 1) h4 rfl
  have e5 := ((((Ext.alloc (o := .own q) n2 R.trk).trans (.alloc (o := .ins C dx (bflds a1 a2 a3)) h1 R1.trk)).trans (.allocK (o := .dT []) (k := i + 1) h2 R2.trk)).trans (.allocK (o := .lst []) (k := i + 1) h3 R3.trk)).trans (.allocK (o := .lst []) (k := i + 1) h4 R4.trk)
  refine h _ _ e5 _ (R5.set ⟨q, rfl, a1, a2, a3, [], [], [], ⟨C, dx, T.ns, ?_⟩, ⟨?_, ?_⟩, ⟨?_, ?_⟩, ⟨upd_same, ?_⟩, n23, rfl, .nil, .nil, .nil⟩) (set_same hm)
  · rw [upd_ne l1.symm, upd_ne k1.symm, upd_ne g1.symm, upd_same]
  · rw [upd_ne n13, upd_ne n12, upd_same]
  · unfold ownTo; rw [if_neg n13, if_neg n12, if_pos rfl]
  · rw [upd_ne n23, upd_same]
  · unfold ownTo; rw [if_neg n23, if_pos rfl]
  · unfold ownTo; rw [if_pos rfl]
end
end DL
namespace DL
open PySem PySem.Spec PyProof.Rows L2
section
variable {K : PySem.W.Frag} {C p dx : Addr} {H : Hp} {Q : VK}
theorem putF3 (a1 a2 a3 : Addr) : putF "past" (.ref a3) (putF "knitted" (.ref a2) (putF "borne" (.ref a1) [])) = bflds a1 a2 a3 := by
  rfl
theorem init_ok (TB : BedTx K C) (hp : H p = some (.ins C dx [])) (k : ∀ a1 a2 a3 : Addr, H a1 = none → H a2 = none → H a3 = none → a1 ≠ a2 → a1 ≠ a3 → a2 ≠ a3 → Q .non (newB H C p dx a1 a2 a3)) :
    tSeq (sFld K (tVar 0) tDNewT "borne") (tSeq (sFld K (tVar 0) (tLst tNil) "knitted") (sFld K (tVar 0) (tLst tNil) "past")) { nx := fun _ H' => Q .non H', rt := Q } (L2.start ["self"] [.ref p]) H := by
  intro a1 f1
  have n1 : p ≠ a1 := ne_of_none hp f1
  refine ⟨.ref p, rfl, p, C, dx, [], rfl, by rw [upd_ne n1]; exact hp, TB.cl, TB.n1, by change 0 < 1000; decide, by change 0 ≤ sizeLine; exact Nat.zero_le _, fun a2 f2 => ?_⟩
  have m1 : a2 ≠ p := by rintro rfl; rw [upd_same] at f2; cases f2
  rw [upd_ne m1] at f2
  have m2 : a2 ≠ a1 := by rintro rfl; rw [upd_same] at f2; cases f2
  rw [upd_ne m2] at f2
  refine ⟨.ref p, rfl, p, C, dx, _, rfl, by rw [upd_ne m1.symm, upd_same], TB.cl, TB.n2, by change 1 < 1000; decide, by change 0 ≤ sizeLine; exact Nat.zero_le _, fun a3 f3 => ?_⟩
  have l1 : a3 ≠ p := by rintro rfl; rw [upd_same] at f3; cases f3
  rw [upd_ne l1] at f3
  have l2 : a3 ≠ a2 := by rintro rfl; rw [upd_same] at f3; cases f3
  rw [upd_ne l2, upd_ne l1] at f3
  have l3 : a3 ≠ a1 := by rintro rfl; rw [upd_same] at f3; cases f3
  rw [upd_ne l3] at f3
  refine ⟨.ref p, rfl, p, C, dx, _, rfl, by rw [upd_ne l1.symm, upd_same], TB.cl, TB.n3, by change 2 < 1000; decide, ?_⟩
  have h := k a1 a2 a3 f1 f2 f3 m2.symm l3.symm l2.symm
  rw [putF3]
  refine cast (congrArg (Q .non) ?_) h
  unfold newB
  funext z
  by_cases z1 : z = a3
  · subst z1; rw [upd_same, upd_ne l1, upd_same]
  rw [upd_ne z1]
  by_cases z2 : z = a2
  · subst z2; rw [upd_same, upd_ne m1, upd_ne z1, upd_ne m1, upd_same]
  rw [upd_ne z2]
  by_cases z3 : z = a1
  · subst z3; rw [upd_same, upd_ne n1.symm, upd_ne z1, upd_ne n1.symm, upd_ne z2, upd_ne n1.symm, upd_same]
  rw [upd_ne z3]
  by_cases z4 : z = p
  · subst z4; rw [upd_same, upd_same]
  · rw [upd_ne z4, upd_ne z4, upd_ne z1, upd_ne z4, upd_ne z2, upd_ne z4, upd_ne z3]
end
end DL
namespace L2
open PySem PySem.Spec PyProof.Rows PySem.W
section
variable {X : Cx} {pins : List (Addr × Obj)} {σ : St} {H H' : Hp} {s : Shared} {pos apos : Pos} {o e : Expr} {es : List Expr} {ta : TE} {t : TA} {m : Str} {C : Addr}
theorem PE.any {te : TE} (h : PE X.nox e te) {Q : VK} {G : Value → Shared → Prop} (I : Inv X pins σ H s) (hw : te σ H Q) : wpAny (model X.prog X.w) X.A (eval e X.env) (EP X pins σ Q) G s :=
  wpAny_mono (h pins s σ H Q (I.wish _) hw) (fun _ _ ⟨vs, H', I', r, q⟩ => ⟨vs, H', I'.unwish, r, q⟩) fun _ _ z => False.elim z
theorem pex_meth {k : Nat} {f : Addr} {fd : FuncData} {ps : List Str} {sp : Sp} {ds : List Value} {dvs : List V} {pl : Sem Bool} (he : PE X.nox o ta) (c : Cls X.K C) (hm : Meth X.K C m f) (F : FnOk X.prog X.w X.K X.mg X.base (Fly X.prog X.w) k f fd ps sp) (hr : Room k X.A) (hex : X.ex = [])
    (hb : Binds X.K fd ps ds) (hd : Vals dvs ds) (ha : PA X.nox (e :: es) t) (hst : starEach (e :: es) X.env = (false, eval e X.env) :: starEach es X.env := by rfl) (hpl : (backTo pos (starEach es X.env)).any (·.1) = false := by rfl)
    (ht : eval (.Call (.Attribute o m apos) (e :: es) [] pos) X.env = (do
      let ov ← eval o X.env
      standAt apos.atName
      let (f, first) ← holding [ov] (getMethod ov m pl)
      callWith pos f first (backTo pos (starEach (e :: es) X.env)) (backToKw pos (keywordEach [] X.env))) := by rfl) :
    PEX X (.Call (.Attribute o m apos) (e :: es) [] pos) (fun σ H Q E => ta σ H fun x H1 => ∃ a dx fs, x = .ref a ∧ H1 a = some (.ins C dx fs) ∧ fs.lookup m = none ∧ t σ H1 fun vs H2 => sp (x :: (vs ++ dvs)) H2 Q E) := by
  intro pins s σ H Q E G I h hG
  refine PySem.W.methodCall_KW (pl := pl) (thn (PE.any he I h) fun u s1 ⟨x, H1, I1, rx, a, dx, fs, ex, ea, l, q⟩ => ?_) ht
  subst ex
  obtain rfl : u = Value.ref a := rx
  refine getmeth_ok I1 ea c hm l ?_
  refine PySem.W.callWith_K (first := [.ref a]) (h₀ := X.base) I.ok.mod.kin hm.kp (thn (PA.any (pos := pos) ha I1 q) fun us s2 ⟨vs, H2, I2, r, q2⟩ => ⟨I2.kIn, ?_⟩) hst hpl
  have r2 : Vals (V.ref a :: (vs ++ dvs)) (Value.ref a :: us ++ ds) := .cons rfl (r.append hd)
  have hl : (Value.ref a :: us ++ ds).length = ps.length := by rw [← r2.length]; exact F.len _ _ _ _ q2
  refine wpAny_call (codeAny_mono (F.run X.A X.stack s2 H2 ⟨Value.ref a :: us, []⟩ (Value.ref a :: us ++ ds) (V.ref a :: (vs ++ dvs)) Q E hr I2.env0 (hb s2 (Value.ref a :: us) I2.kIn hl) r2 q2) fun r s' hq => ?_)
  cases r with
  | error e =>
    obtain ⟨a, cls, H', rfl, ho, hb', u, hok, ⟨f1, f2, a0, oe, vs, T, oT, ts, t1, t2, t3, t4, t5, t5', t6, t7, t8, t9⟩, hE⟩ := hq
    have J : Inv X pins σ H' s' := I2.call' (ch := []) ho u hok hb' (fun b z => nomatch z)
    exact hG a cls H' s' J ⟨⟨.of I2 hex f1, f2⟩, a0, oe, vs, T, oT, ts, t1, t2, t3, t4, ⟨.of I2 hex t5, t5'⟩, t6, t7, t8, t9⟩ hE
  | ok fl =>
    cases fl with
    | ret u => exact I2.after hq
    | next => exact False.elim hq
    | brk => exact False.elim hq
    | cont => exact False.elim hq
noncomputable def RpV : V → Prop
  | .str x => x.length ≤ 100 ∧ ∀ c ∈ x.cps.toList, c < 16 ^ 8
  | .int a => a.natAbs.log2 < 1920 ∧ (toString a : Str).length ≤ 1000
  | _ => False
theorem repr_all {prog : Program} {w : World} : ∀ {vs : List V} {us : List Value}, Vals vs us → (∀ v ∈ vs, RpV v) → ∃ ts, ReprAll prog w us ts ∧ ∀ t ∈ ts, t.length ≤ 1002
  | [], _, h, _ => by cases h; exact ⟨[], .nil, fun _ z => nomatch z⟩
  | v :: vs, _, h, hv => by
    cases h with
    | cons r rr =>
      obtain ⟨ts, h1, h2⟩ := repr_all (prog := prog) (w := w) rr fun x hx => hv x (List.mem_cons_of_mem _ hx)
      have h0 := hv v List.mem_cons_self
      cases v with
      | str x =>
        obtain ⟨t, rfl⟩ := r
        have hl : (reprText x).length ≤ 1002 := by
          have := PySem.StrLaws.reprText_len x h0.2
          have := h0.1
          omega
        exact ⟨_ :: ts, .cons (ReprIs.str x t (by unfold sizeLine; omega)) h1, fun z hz => by
          rcases List.mem_cons.mp hz with rfl | hz
          · exact hl
          · exact h2 z hz⟩
      | int a =>
        obtain ⟨t, rfl⟩ := r
        exact ⟨_ :: ts, .cons (ReprIs.int t h0.1) h1, fun z hz => by
          rcases List.mem_cons.mp hz with rfl | hz
          · exact Nat.le_trans h0.2 (by omega)
          · exact h2 z hz⟩
      | _ => exact h0.elim
theorem sum_le : ∀ {ts : List Str}, (∀ t ∈ ts, t.length ≤ 1002) → (ts.map (·.length)).sum ≤ 1002 * ts.length
  | [], _ => Nat.le_refl _
  | t :: ts, h => by
    have h1 := h t List.mem_cons_self
    have h2 := sum_le fun x hx => h x (List.mem_cons_of_mem _ hx)
    rw [List.map_cons, List.sum_cons, List.length_cons]
    omega
theorem px_fmtT {te : TE} {k : Nat} (hr : Room k X.A) (he : PE X e te) : PX X (.FormattedValue e 114 none pos) (fun σ H => te σ H fun v H' => H' = H ∧ ∃ a vs, v = .ref a ∧ vs.length ≤ 10 ∧ SqT X.K H a vs ∧ ∀ v ∈ vs, RpV v) := by
  intro pins s σ H Q I hR hq
  refine wpAny_FormattedValue_repr (thn (he pins s σ H _ I hR) fun u s1 ⟨v, H', I', r, e1, a, vs, e2, hz, hs, hv⟩ => ?_)
  subst e1 e2
  obtain rfl : u = Value.ref a := r
  obtain ⟨its, r1, p1, _⟩ := I'.tuple hs
  obtain ⟨ts, h1, h2⟩ := repr_all (prog := X.prog) (w := X.w) r1 hv
  obtain ⟨o, ho, hc, n, hd⟩ := id p1
  have hl : (tupleText ts).length ≤ 20000 := by
    have h3 := tupleText_len_le ts
    have h4 := sum_le h2
    have h5 := h1.length_eq
    have h6 := r1.length
    omega
  refine wpAny_pyReprObj_tuple ⟨o, ho, hc⟩ hr.gd (fun c hc => nomatch hc) hr.units0 ho hd (by simpa using h1) (fun u tk => ?_) (by unfold sizeLine; omega)
  exact formatField_str (fun t' tk' => hq _ t' _ hl ((I'.tok tk).tok tk')) (by unfold sizeLine; omega)
end
end L2
namespace DL
open PySem PySem.Spec PyProof.Rows L2
noncomputable def okI : D → Bool
  | .str x => decide (x.length ≤ 100) && x.cps.toList.all fun c => decide (c < 16 ^ 8)
  | .int a => decide (a.natAbs.log2 < 1920) && decide ((toString a : Str).length ≤ 1000)
  | _ => false
noncomputable def okT (i : Nat) (δ : DSt) : Bool := match δ[i]? with | some (.sh (.tup ds)) => decide (ds.length ≤ 10) && ds.all okI | _ => false
theorem okI_rep {K : PySem.W.Frag} {H : Hp} {Ω : Om} : ∀ {ds : List D} {vs : List V}, Reps K H Ω ds vs → ds.all okI = true → ∀ v ∈ vs, RpV v
  | [], vs, r, _, v, hv => by cases (show vs = [] from r); cases hv
  | d :: ds, vs, r, h, v, hv => by
    obtain ⟨v0, r0, e1, e2, e3⟩ := (show ∃ v r, _ from r)
    subst e1
    rw [List.all_cons, Bool.and_eq_true] at h
    rcases List.mem_cons.mp hv with rfl | hv
    · have h1 := h.1
      cases d with
      | str x =>
        cases (show v = .str x from e2)
        obtain ⟨z1, z2⟩ := Bool.and_eq_true_iff.mp h1
        exact ⟨of_decide_eq_true z1, fun c hc => of_decide_eq_true (List.all_eq_true.mp z2 c hc)⟩
      | int a =>
        cases (show v = .int a from e2)
        obtain ⟨z1, z2⟩ := Bool.and_eq_true_iff.mp h1
        exact ⟨of_decide_eq_true z1, of_decide_eq_true z2⟩
      | _ => cases h1
    · exact okI_rep e3 h.2 v hv
section
variable {X : Cx} {E : Str → Hp → Prop} {E0 : XK} {pos apos p : Pos} {e : Expr} {es : List Expr} {C : Addr} {k n : Nat} {x m : Str} {r : DM (List DV)} {mp : List Nat}
theorem pxd_fmtT (i : Nat) (hr : Room k X.A) (hN : X.N[i]? = some x := by rfl) (hv : Vis X.env.scope x := by first | exact Or.inl rfl | exact Or.inr (Or.inl rfl) | exact Or.inr (Or.inr rfl)) (hd : (x == ("__debug__" : Str)) = false := by decide)
    (hcd : (x == ("__classdict__" : Str)) = false := by decide) : PXD X (.FormattedValue (.Name x p) 114 none pos) (okT i) :=
  ⟨_, px_fmtT hr (pv i hN hv hd hcd), fun {H Ω σ δ} r h => by
    unfold okT at h
    split at h
    · rename_i ds e
      obtain ⟨v, e1, e2⟩ := r.sl i _ e
      obtain ⟨a, vs, z1, z2, z3⟩ := (show ∃ a vs, _ from e2)
      subst z1
      obtain ⟨h1, h2⟩ := Bool.and_eq_true_iff.mp h
      exact ⟨.ref a, join_some e1, rfl, a, vs, rfl, by rw [← z3.length]; exact of_decide_eq_true h1, z2, okI_rep z3 h2⟩
    · cases h⟩
theorem ped_methWE (i : Nat) {M : Bd → List D → Rw} {pl : Sem Bool} (T : BedTx X.K C) (F : MethW X.prog X.w X.K X.mg X.base C k m n M) (hr : Room k X.A) (ha : PAD X E (e :: es) r) (hf : NoFld m := by exact ⟨by decide +kernel, by decide +kernel, by decide +kernel⟩)
    (hN : X.N[i]? = some x := by rfl) (hv : Vis X.env.scope x := by first | exact Or.inl rfl | exact Or.inr (Or.inl rfl) | exact Or.inr (Or.inr rfl)) (hd : (x == ("__debug__" : Str)) = false := by decide) (hcd : (x == ("__classdict__" : Str)) = false := by decide)
    (hst : starEach (e :: es) X.env = (false, eval e X.env) :: starEach es X.env := by rfl) (hpl : (backTo pos (starEach es X.env)).any (·.1) = false := by rfl)
    (ht : eval (.Call (.Attribute (.Name x p) m apos) (e :: es) [] pos) X.env = (do
      let ov ← eval (.Name x p) X.env
      standAt apos.atName
      let (f, first) ← holding [ov] (getMethod ov m pl)
      callWith pos f first (backTo pos (starEach (e :: es) X.env)) (backToKw pos (keywordEach [] X.env))) := by rfl) :
    PED X E (.Call (.Attribute (.Name x p) m apos) (e :: es) [] pos) (fCallW i n r M) := by
  obtain ⟨f, fd, ps, F, hm, b⟩ := F.ex
  obtain ⟨t, q, d⟩ := ha
  exact ⟨_, pe_meth (E := fun _ _ _ => True) (pl := pl) (pv i hN hv hd hcd) T.cl hm F hr b .nil pass0 q hst hpl ht, de_methW T hf (fun _ _ _ => trivial) d⟩
theorem ped_methX (i : Nat) {M : Bd → List D → Rw} {pl : Sem Bool} (T : BedTx X.K C) (F : MethX X.prog X.w X.K X.mg X.base C k m n M) (hp : Passes (Fly X.prog X.w) X E0) (hr : Room k X.A) (ha : PAD X (EX X.mg E0) (e :: es) r) (hf : NoFld m := by exact ⟨by decide +kernel, by decide +kernel, by decide +kernel⟩)
    (hN : X.N[i]? = some x := by rfl) (hv : Vis X.env.scope x := by first | exact Or.inl rfl | exact Or.inr (Or.inl rfl) | exact Or.inr (Or.inr rfl)) (hd : (x == ("__debug__" : Str)) = false := by decide) (hcd : (x == ("__classdict__" : Str)) = false := by decide)
    (hst : starEach (e :: es) X.env = (false, eval e X.env) :: starEach es X.env := by rfl) (hpl : (backTo pos (starEach es X.env)).any (·.1) = false := by rfl)
    (ht : eval (.Call (.Attribute (.Name x p) m apos) (e :: es) [] pos) X.env = (do
      let ov ← eval (.Name x p) X.env
      standAt apos.atName
      let (f, first) ← holding [ov] (getMethod ov m pl)
      callWith pos f first (backTo pos (starEach (e :: es) X.env)) (backToKw pos (keywordEach [] X.env))) := by rfl) :
    PED X (EX X.mg E0) (.Call (.Attribute (.Name x p) m apos) (e :: es) [] pos) (fCallW i n r M) := by
  obtain ⟨f, fd, ps, F, hm, b⟩ := F.ex
  obtain ⟨t, q, d⟩ := ha
  exact ⟨_, pe_meth (pl := pl) (pv i hN hv hd hcd) T.cl hm F hr b .nil hp q hst hpl ht, de_methW T hf (fun _ _ z => z) d⟩
theorem ped_methZ (i : Nat) {M : Bd → List D → Rw} {pl : Sem Bool} (T : BedTx X.K C) (F : MethX X.prog X.w X.K X.mg X.base C k m n M) (hr : Room k X.A) (ha : PAD X EN (e :: es) r) (hf : NoFld m := by exact ⟨by decide +kernel, by decide +kernel, by decide +kernel⟩)
    (hN : X.N[i]? = some x := by rfl) (hv : Vis X.env.scope x := by first | exact Or.inl rfl | exact Or.inr (Or.inl rfl) | exact Or.inr (Or.inr rfl)) (hd : (x == ("__debug__" : Str)) = false := by decide) (hcd : (x == ("__classdict__" : Str)) = false := by decide)
    (hst : starEach (e :: es) X.env = (false, eval e X.env) :: starEach es X.env := by rfl) (hpl : (backTo pos (starEach es X.env)).any (·.1) = false := by rfl)
    (ht : eval (.Call (.Attribute (.Name x p) m apos) (e :: es) [] pos) X.env = (do
      let ov ← eval (.Name x p) X.env
      standAt apos.atName
      let (f, first) ← holding [ov] (getMethod ov m pl)
      callWith pos f first (backTo pos (starEach (e :: es) X.env)) (backToKw pos (keywordEach [] X.env))) := by rfl) :
    PED X EN (.Call (.Attribute (.Name x p) m apos) (e :: es) [] pos) (fCallW i n r M) := by
  obtain ⟨f, fd, ps, F, hm, b⟩ := F.ex
  obtain ⟨t, q, d⟩ := ha
  exact ⟨_, pe_meth (E := fun _ _ _ => False) (pl := pl) (pv i hN hv hd hcd) T.cl hm F hr b .nil (fun _ _ _ _ _ _ _ h => by obtain ⟨_, _, _, _, _, _, _, _, _, hE⟩ := h; exact hE.elim) q hst hpl ht, de_methW T hf (fun _ _ z => z.elim) d⟩
theorem dxe_meth {K : PySem.W.Frag} {mg : Str → Option Value} {M : Bd → List D → Rw} {t : TA} {fa : DM (List DV)} (i : Nat) (T : BedTx K C) (hm : NoFld m) (ha : DA K EN t fa) :
    DXE K mg (fun σ H Q E => tVar i σ H fun x H1 => ∃ a dx fs, x = .ref a ∧ H1 a = some (.ins C dx fs) ∧ fs.lookup m = none ∧ t σ H1 fun vs H2 => spW K (ceOf mg) n M (x :: (vs ++ [])) H2 Q E) (fCallWX i n fa M) := by
  intro σ H δ Ω R Q Ex h
  unfold fCallWX at h
  split at h
  · rename_i hs
    obtain ⟨⟨b0, own0⟩, hb0⟩ := Option.isSome_iff_exists.mp hs
    obtain ⟨p, a1, a2, a3, e0, hp, _⟩ := bed_slot R hb0
    obtain ⟨dx, hi⟩ := hp.bed.ins T
    refine ⟨.ref p, e0, p, dx, _, rfl, hi, hm.none _ _ _, ?_⟩
    refine ha.use R h fun as vs δ1 H1 Ω1 _ s1 R1 r1 h1 => ?_
    (try dsimp only at h1)
    split at h1
    · rename_i ds b own q1 q2
      split at h1
      · rename_i hn
        obtain ⟨p', c1, c2, c3, e1, hp1, hne⟩ := bed_slot R1 q2
        have e2 := e1
        rw [e0] at e1
        cases e1
        rw [List.append_nil]
        refine callW_core R1 e2 hp1 hne (r1.vals q1) hn (fun d b' q => ?_) (fun es b' q => ?_) (fun c q H' Ω' e t R' => ?_) fun q => ?_
        · rw [q] at h1
          unfold rwX at h1
          dsimp only at h1
          split at h1
          · rename_i ho; exact ⟨ho, fun H' Ω' e R' v rv => h1 H' Ω' e R' v rv⟩
          · exact h1.elim
        · rw [q] at h1
          unfold rwX at h1
          dsimp only at h1
          split at h1
          · rename_i ho; exact ⟨ho, fun H' Ω' e R' v rv => h1 H' Ω' e R' v rv⟩
          · exact h1.elim
        · rw [q] at h1
          exact h1 H' Ω' e R'
        · rw [q] at h1
          exact h1
      · exact h1.elim
    · exact h1.elim
  · exact h.elim
theorem pxe_meth (i : Nat) {M : Bd → List D → Rw} {pl : Sem Bool} (T : BedTx X.K C) (F : MethX X.prog X.w X.K X.mg X.base C k m n M) (hr : Room k X.A) (ha : PAD X.nox EN (e :: es) r) (hex : X.ex = [] := by rfl) (hf : NoFld m := by exact ⟨by decide +kernel, by decide +kernel, by decide +kernel⟩)
    (hN : X.N[i]? = some x := by rfl) (hv : Vis X.env.scope x := by first | exact Or.inl rfl | exact Or.inr (Or.inl rfl) | exact Or.inr (Or.inr rfl)) (hd : (x == ("__debug__" : Str)) = false := by decide) (hcd : (x == ("__classdict__" : Str)) = false := by decide)
    (hst : starEach (e :: es) X.env = (false, eval e X.env) :: starEach es X.env := by rfl) (hpl : (backTo pos (starEach es X.env)).any (·.1) = false := by rfl)
    (ht : eval (.Call (.Attribute (.Name x p) m apos) (e :: es) [] pos) X.env = (do
      let ov ← eval (.Name x p) X.env
      standAt apos.atName
      let (f, first) ← holding [ov] (getMethod ov m pl)
      callWith pos f first (backTo pos (starEach (e :: es) X.env)) (backToKw pos (keywordEach [] X.env))) := by rfl) :
    PXE X (.Call (.Attribute (.Name x p) m apos) (e :: es) [] pos) (fCallWX i n r M) := by
  obtain ⟨f, fd, ps, F, hm, b⟩ := F.ex
  obtain ⟨t, q, d⟩ := ha
  exact ⟨_, pex_meth (pl := pl) (pv i hN hv hd hcd) T.cl hm F hr hex b .nil q hst hpl ht, dxe_meth i T hf d⟩
end
end DL
namespace L2
open PySem PySem.Spec PyProof.Rows PySem.W
structure RoomH (k : Nat) (A : Around) : Prop where
  dp : A.depth + 3 * k + 5 < recursionLimit
  un : A.units + 16 * k + 200 < cLine
  gd : A.guards = some []
theorem Room.mark {k : Nat} {A : Around} (r : Room k A) {v : Option Value} : RoomH k (A.mark v) := ⟨r.dp, r.un, r.gd⟩
theorem RoomH.mono {j k : Nat} {A : Around} (r : RoomH k A) (h : j ≤ k) : RoomH j A := ⟨by have := r.dp; omega, by have := r.un; omega, r.gd⟩
theorem RoomH.deeper {k : Nat} {A : Around} (r : RoomH (k + 1) A) (env : Env) : RoomH k (A.deeper env) :=
  ⟨by have := r.dp; change A.depth + 1 + 3 * k + 5 < _; omega, by have := r.un; change A.units + 3 + 16 * k + 200 < _; omega, r.gd⟩
structure FnOkH (P : Program) (w : World) (K : PySem.W.Frag) (mg : Str → Option Value) (base : Heap) (CX : CXT) (k : Nat) (f : Addr) (fd : FuncData) (ps : List Str) (sp : Sp) : Prop where
  len : ∀ vs H Q E, sp vs H Q E → vs.length = ps.length
  run : ∀ (A : Around) (outer : List Env) (s : Shared) (H : Hp) (args : Args) (us : List Value) (vs : List V) (Q : VK) (E : XK), RoomH k A → Env0 P w K mg base A outer s H → BindsTo s fd args (ps.zip us) → Vals vs us → sp vs H Q E →
    codeAny (model P w) A (.call (.ref f) args) (CR CX outer P w H s Q E) s
noncomputable abbrev cxH (CX : CXT) (P : Program) (w : World) (K : PySem.W.Frag) (mg : Str → Option Value) (base : Heap) (N : List Str) (qual : Str) (scope : Scope) (f : Addr) (cd : Value) (A : Around) (outer : List Env) (s : Shared) (H : Hp) (E : XK) : Cx :=
  { cxOf CX P w K mg base N qual scope f cd A outer s H E with calm := false }
theorem inv_calm {CX : CXT} {P : Program} {w : World} {K : PySem.W.Frag} {mg : Str → Option Value} {base : Heap} {N : List Str} {qual : Str} {scope : Scope} {f : Addr} {cd : Value} {A : Around} {outer : List Env} {s : Shared} {H : Hp} {E : XK} {pins : List (Addr × Obj)} {σ : St} {H' : Hp} {s' : Shared}
    (I : Inv (cxOf CX P w K mg base N qual scope f cd { A with handled := none } outer s H E) pins σ H' s') : Inv (cxH CX P w K mg base N qual scope f cd A outer s H E) pins σ H' s' :=
  ⟨⟨I.ok.mod, I.ok.kind, I.ok.glob, I.ok.blt, I.ok.above, I.ok.inj, I.ok.has, I.ok.cab, (fun z => by cases z), I.ok.frames, I.ok.stk, I.ok.exf, I.ok.bs, I.ok.bsz, I.ok.noex, I.ok.exfs, I.ok.funs, I.ok.frf⟩, I.os, I.bare, I.base, I.loc, I.cell, I.free, I.freeC, I.pin, I.hok, I.len⟩
theorem fn_ofH {CX : CXT} {P : Program} {w : World} {K : PySem.W.Frag} {mg : Str → Option Value} {base : Heap} {k : Nat} {f : Addr} {name qual : Str} {params : Arguments} {body : List Stmt} {scope : Scope} {dV kV doc pm cdv ct oc : Value} {an od : Option Addr}
    {osl : Array (Option Value)} {N ps : List Str} {sp : Sp} (lk : K.lookup f = some ⟨oc, od, .func (PySem.W.fnOf name qual params body scope dV kV doc pm an cdv ct), osl⟩) (hcd : PySem.W.codeIn K cdv qual = true) (S : FnScope N ps scope)
    (len : ∀ vs H Q E, sp vs H Q E → vs.length = ps.length)
    (hbody : ∀ (A : Around) (outer : List Env) (s : Shared) (H : Hp) (vs : List V) (Q : VK) (E : XK), RoomH k (A.deeper (envOfC qual scope s.heap.objs.size f cdv)) → sp vs H Q E →
      ∃ t, PSs (cxH CX P w K mg base N qual scope f cdv A outer s H E) body t ∧ t { nx := fun _ H' => Q .non H', rt := Q } (start N vs) H) :
    FnOkH P w K mg base CX (k + 1) f (PySem.W.fnOf name qual params body scope dV kV doc pm an cdv ct) ps sp := by
  refine ⟨len, fun A outer s H args us vs Q E hr e0 hb r hsp => ?_⟩
  have hl := len _ _ _ _ hsp
  have KX : K.In s.heap := e0.mod.kin.keeps fun b o e => (e0.bs b o e).1
  have lim : s.heap.NoLimit := e0.mod.nolimit.keeps fun b o e => (e0.bs b o e).1
  have hkind : ∀ y ∈ ps.zip us, scope.names.lookup y.1 = some .local ∨ (scope.names.lookup y.1 = some .cell ∧ ((cellsFrom (s.heap.objs.size + 1) scope.names []).lookup y.1).isSome = true) := fun ⟨n, v⟩ hy => by
    rcases S.par n (List.of_mem_zip hy).1 with q | q
    · exact .inl q
    · exact .inr ⟨q, PySem.W.cellsFrom_some _ _ _ (.inl q)⟩
  refine codeAny_call_function (by have := hr.dp; omega) (KX _ _ lk) rfl S.co S.gen rfl (PySem.W.codeRec_of KX hcd) (hb _ _ _ _ ?_)
  refine wpAny_newFunctionEnv_cells S.kind hkind fun env he s1 x => ?_
  subst he
  refine ⟨lim.keeps x.toInCall.keep, codeAny_func ?_⟩
  obtain ⟨t, ht, hq⟩ := hbody A outer s H vs Q E (hr.deeper _) hsp
  have e1 : Env0 P w K mg base { A with handled := none } outer s H := ⟨e0.frames, e0.mod, e0.bs, e0.bsz, e0.funs, e0.frf, e0.hok, e0.bare⟩
  have I : Inv (cxH CX P w K mg base N qual scope f cdv A outer s H E) [] (start N vs) H s1 := inv_calm (inv_start S rfl e1 hl r x)
  refine wpAny_mono (ht [] s1 (start N vs) H _ I hq) (fun fl s' hs => ?_) fun e s' hs => hs
  have fin : ∀ {σ' : St} {H' : Hp} {v : V} {u : Value}, Inv (cxH CX P w K mg base N qual scope f cdv A outer s H E) [] σ' H' s' → RelV v u → Q v H' → CE outer P w H s Q u s' :=
    fun {σ' H' v u} J rv q => ⟨v, H', J.os, J.bare, J.base, J.hok, rv, q⟩
  cases fl with
  | ret u =>
    obtain ⟨v, σ', H', J, rv, q⟩ := hs
    exact fin J rv q
  | next =>
    obtain ⟨σ', H', J, q⟩ := hs
    exact fin (v := V.non) (u := Value.none) J rfl q
  | brk =>
    obtain ⟨_, _, _, q⟩ := hs
    exact False.elim q
  | cont =>
    obtain ⟨_, _, _, q⟩ := hs
    exact False.elim q
section
variable {X : Cx} {CX : CXT} {k : Nat} {f : Addr} {fd : FuncData} {ps : List Str} {sp : Sp} {dvs : List V} {ds : List Value} {E : XK} {x : Str} {p pos : Pos} {e : Expr} {es : List Expr} {t : TA}
theorem pe_callH (F : FnOkH X.prog X.w X.K X.mg X.base CX k f fd ps sp) (hr : RoomH k X.A) (hg : Gl X x) (hm : X.mg x = some (.ref f)) (hk : PySem.W.keepIn X.K (.ref f) = true) (hb : Binds X.K fd ps ds) (hd : Vals dvs ds) (hx : Passes CX X E)
    (ha : PA X (e :: es) t) (hdb : (x == ("__debug__" : Str)) = false := by decide) (he : starEach (e :: es) X.env = (false, eval e X.env) :: starEach es X.env := by rfl) (hpl : (backTo pos (starEach es X.env)).any (·.1) = false := by rfl) :
    PE X (.Call (.Name x p) (e :: es) [] pos) (tCall sp dvs E t) := by
  intro pins s σ H Q I h
  refine wpAny_Call_Name_kw (ld_glob I hg hm ?_ hdb)
  refine PySem.W.callWith_K (h₀ := X.base) I.ok.mod.kin hk (thn (ha pos pins s σ H _ I h) fun us s1 ⟨vs, H1, I1, r, q⟩ => ⟨I1.kIn, ?_⟩) he hpl
  have r2 : Vals (vs ++ dvs) (us ++ ds) := r.append hd
  have hl : (us ++ ds).length = ps.length := by rw [← r2.length]; exact F.len _ _ _ _ q
  refine wpAny_call (codeAny_mono (F.run X.A X.stack s1 H1 ⟨us, []⟩ (us ++ ds) (vs ++ dvs) Q E hr I1.env0 (hb s1 us I1.kIn hl) r2 q) fun r s' hq => ?_)
  cases r with
  | error e => exact hx pins σ H1 s1 e s' I1 hq
  | ok fl =>
    cases fl with
    | ret u => exact I1.after hq
    | next => exact False.elim hq
    | brk => exact False.elim hq
    | cont => exact False.elim hq
end
end L2
namespace DL
open PySem PySem.Spec PyProof.Rows L2
structure DefH (P : Program) (w : World) (K : PySem.W.Frag) (mg : Str → Option Value) (base : Heap) (k : Nat) (x : Str) (n : Nat) (M : List D → Ro) : Prop where
  ex : ∃ (f : Addr) (fd : FuncData) (ps : List Str), FnOkH P w K mg base CX0 k f fd ps (spP K (fun _ => .none) n M) ∧ mg x = some (.ref f) ∧ PySem.W.keepIn K (.ref f) = true ∧ Binds K fd ps []
theorem fnH {P : Program} {w : World} {K : PySem.W.Frag} {mg : Str → Option Value} {base : Heap} {x qual : Str} {st : Stmt} {f : Addr} {fd : FuncData} {N ps : List Str} {k : Nat} {body : DM Fl} (F : Fun K x qual st f fd) (S : FnScope N ps (defScope st))
    (hb : ∀ (cdv : Value) (A : Around) (outer : List Env) (s : Shared) (H : Hp) (E : XK), RoomH k (A.deeper (envOfC qual (defScope st) s.heap.objs.size f cdv)) →
      PSsD (cxH CX0 P w K mg base N qual (defScope st) f cdv A outer s H E).nox EN [] (defBody st) body) : FnOkH P w K mg base CX0 (k + 1) f fd ps (spP K (fun _ => .none) ps.length (runP body N.length)) := by
  obtain ⟨oc, od, kV, doc, pm, an, cdv, ct, osl, rfl, lk, hcd⟩ := F.ex
  refine fn_ofH lk hcd S (fun vs H Q E h => h.1) (fun A outer s H vs Q E hr h => ?_)
  obtain ⟨ts, p, d⟩ := hb cdv A outer s H E hr
  refine ⟨ts, p.nox, ?_⟩
  obtain ⟨hl, Ω, ds, ht, h0, hr, hq⟩ := h
  refine d (L2.start N vs) H _ Ω (RepS.start hr ht) _ ?_
  unfold runP at hq
  cases e : body (ds.map .sh ++ List.replicate (N.length - ds.length) .no) with
  | un => rw [e] at hq; exact hq
  | er c => rw [e] at hq; exact hq.elim
  | ok fl δ' =>
    rw [e] at hq
    cases fl with
    | nx => exact fun H' Ω' ex σ' R' _ => hq H' Ω' ex R'.trk .non rfl
    | bk => exact hq.elim
    | ct => exact hq.elim
    | rt d => exact fun H' Ω' ex σ' R' _ v r => hq H' Ω' ex R'.trk v r
    | rto es => exact fun H' Ω' ex σ' R' _ v r => hq H' Ω' ex R'.trk v r
section
variable {X : Cx} {pos : Pos} {e : Expr}
theorem ped_callH {k n : Nat} {x : Str} {M : List D → Ro} {p : Pos} {es : List Expr} {r : DM (List DV)} (F : DefH X.prog X.w X.K X.mg X.base k x n M) (hr : RoomH k X.A) (ha : PAD X EN (e :: es) r) (hg : Gl X x := by rfl)
    (hdb : (x == ("__debug__" : Str)) = false := by decide) (he : starEach (e :: es) X.env = (false, eval e X.env) :: starEach es X.env := by rfl) (hpl : (backTo pos (starEach es X.env)).any (·.1) = false := by rfl) :
    PED X EN (.Call (.Name x p) (e :: es) [] pos) (fCall n r M) := by
  obtain ⟨fa, fd, ps, F, hm, kp, b⟩ := F.ex
  obtain ⟨t, q, d⟩ := ha
  exact ⟨_, pe_callH F hr hg hm kp b .nil pass0 q hdb he hpl, de_call (fun _ _ z => z) d⟩
noncomputable def fTupX (d : D) (fx : DM (Sum Str DV)) : DM (Sum Str DV) := fx.bd fun r δ => match r with
  | .inl c => .ok (.inl c) δ
  | .inr (.val y) => .ok (.inr (.val (.tup [d, y]))) δ
  | .inr (.own ys) => .ok (.inr (.val (.tup [d, .lst ys]))) δ
  | _ => .un
end
end DL
namespace DL
open PySem PySem.Spec PyProof.Rows L2
section
variable {X : Cx} {pos : Pos} {e : Expr}
theorem pxe_tupX {w : Str} {j : Nat} {k : Nat} {p1 : Pos} {fx : DM (Sum Str DV)} (he : PXE X e fx) (hs : starEach [.Constant (.str w) j p1, e] X.env = (false, eval (.Constant (.str w) j p1) X.env) :: starEach [e] X.env := by rfl) (hs2 : starEach [e] X.env = (false, eval e X.env) :: starEach [] X.env := by rfl) :
    PXE X (.Tuple [.Constant (.str w) j p1, e] k pos) (fTupX (.str w) fx) := by
  obtain ⟨t, q, d⟩ := he
  refine ⟨_, pex_tup (pax_cons pe_str (pax_one q hs2) hs), fun σ H δ Ω R Q Ex h => ?_⟩
  refine d σ H δ Ω R _ _ (Wg.bd h fun r δ1 H1 Ω1 ex w1 => ?_)
  cases r with
  | inl c => exact fun R1 => w1 H1 Ω1 .refl R1
  | inr a =>
    cases a with
    | val y =>
      intro R1 v rv
      exact ⟨by change 2 ≤ sizeLine; decide, fun p hp => Wg.allocT (ds := [.str w, y]) (E := EN) (fun H2 Ω2 e2 R2 u ru => w1 H2 Ω2 e2 R2 u ru) R1 hp (.cons rfl (.cons rv .nil))⟩
    | own ys =>
      intro R1 v rv
      obtain ⟨Ω2, R2, rv2, e2⟩ := RepDV.norm R1 rv
      exact ⟨by change 2 ≤ sizeLine; decide, fun p hp => Wg.allocT (ds := [.str w, .lst ys]) (E := EN) (fun H3 Ω3 e3 R3 u ru => w1 H3 Ω3 (e2.trans e3) R3 u ru) R2 hp (.cons rfl (.cons rv2 .nil))⟩
    | slot i => exact w1.elim
    | fld _ _ => exact w1.elim
end
end DL
namespace DL
open PySem PySem.Spec PyProof.Rows L2
noncomputable def lendS : Sl → Sl
  | .sh d => .sh d
  | .ow ds => .sh (.lst ds)
  | .ob ks vs as bs => .sh (.obj ks vs as bs)
  | _ => .no
noncomputable def fLend (f : DM DV) : DM DV := fun δ => match f (δ.map lendS) with
  | .ok (.val d) _ => if flat d = true then .ok (.val d) δ else .un
  | .ok (.own ds) _ => if flats ds = true then .ok (.own ds) δ else .un
  | _ => .un
noncomputable def isOwn : Option Nat → Bool
  | some (_ + 2) => true
  | _ => false
noncomputable def lent (Ω : Om) : Om := fun x => if isOwn (Ω x) = true then none else under Ω x
noncomputable def given (Ω Ω' : Om) : Om := fun x => if isOwn (Ω x) = true then Ω x else back Ω Ω' x
section
variable {K : PySem.W.Frag} {E : Str → Hp → Prop} {H H' : Hp} {Ω Ω' : Om} {σ : St} {δ δ' : DSt}
theorem lent_own {x : Addr} {k : Nat} (h : Ω x = some (k + 2)) : lent Ω x = none := by unfold lent; rw [h]; rfl
theorem lent_none {x : Addr} (h : Ω x = none) : lent Ω x = none := by unfold lent; rw [if_neg (by rw [h]; exact Bool.false_ne_true)]; exact under_none h
theorem lent_zero {x : Addr} (h : Ω x = some 0) : lent Ω x = some 0 := by unfold lent; rw [if_neg (by rw [h]; exact Bool.false_ne_true)]; exact under_some h
theorem given_own {x : Addr} {k : Nat} (h : Ω x = some (k + 2)) : given Ω Ω' x = some (k + 2) := by unfold given; rw [if_pos (by rw [h]; rfl)]; exact h
theorem own_of {x : Addr} (h : isOwn (Ω x) = true) : ∃ k, Ω x = some (k + 2) := by
  cases e : Ω x with
  | none => rw [e] at h; cases h
  | some n =>
    rw [e] at h
    match n, h with
    | k + 2, _ => exact ⟨k, rfl⟩
theorem Ext.given (e : Ext H (lent Ω) H' Ω') : Ext H Ω H' (DL.given Ω Ω') where
  keep := fun x o q z => e.keep x o q (z.imp_right fun y => y.imp lent_none lent_zero)
  new := fun x q z => by
    unfold DL.given
    rw [if_neg (by rw [q]; exact Bool.false_ne_true)]
    exact back_none x (e.new x (lent_none q) z)
  fr := fun x => by
    by_cases h : isOwn (Ω x) = true
    · unfold DL.given; rw [if_pos h]
    · unfold DL.given
      rw [if_neg h]
      constructor
      · intro z
        rw [back_zero ((e.fr x).mp (lent_zero z))]
        exact z
      · intro z
        unfold DL.back at z
        split at z
        · exact z
        · cases z
        · cases z
  live := e.live
theorem RepS.lend (R : RepS K H Ω σ δ) : RepS K H (lent Ω) σ (δ.map lendS) := by
  have hl : ∀ x, Ω x = none → lent Ω x = none := fun _ => lent_none
  refine ⟨by rw [List.length_map]; exact R.len, fun j s q => ?_, fun a k q => ?_⟩
  · rw [List.getElem?_map] at q
    obtain ⟨s', q1, q2⟩ := Option.map_eq_some_iff.mp q
    subst q2
    cases s' with
    | sh d =>
      obtain ⟨v, z1, z2⟩ := R.sl j _ q1
      exact ⟨v, z1, Rep.less hl z2⟩
    | ow ds =>
      obtain ⟨a, vs, z1, z2, z3, z4⟩ := R.sl j _ q1
      exact ⟨.ref a, z1, (show ∃ a vs, _ from ⟨a, vs, rfl, ⟨.inl z2, lent_own z3⟩, z4.less hl⟩)⟩
    | ob ks vs as bs =>
      obtain ⟨p, z1, ho⟩ := R.sl j _ q1
      obtain ⟨a1, a2, a3, h1, h2⟩ := ObAt.pt ho
      exact ⟨.ref p, z1, PtAt.obj (b := ⟨ks, vs, as, bs⟩) (h1.re hl (lent_own (h1.lab (.inl rfl)).1) (lent_own (h1.lab (.inr (.inl rfl))).1) (lent_own (h1.lab (.inr (.inr rfl))).1))⟩
    | _ => trivial
  · by_cases h : isOwn (Ω a) = true
    · unfold lent at q; rw [if_pos h] at q; cases q
    · unfold lent at q; rw [if_neg h] at q; exact trk_under R.trk a k q
theorem RepS.given (R : RepS K H Ω σ δ) (e : Ext H (lent Ω) H' Ω') (ht : Trk H' Ω') : RepS K H' (DL.given Ω Ω') σ δ := by
  have kp : ∀ x k u, Ω x = some (k + 2) → H x = some u → H' x = some u := fun x k u q1 q2 => e.keep x u q2 (.inr (.inl (lent_own q1)))
  refine R.ext e.given (fun b k u q1 q2 => ⟨kp b k u q1 q2, given_own q1⟩) fun a k q => ?_
  by_cases h : isOwn (Ω a) = true
  · obtain ⟨j, hj⟩ := own_of h
    obtain ⟨u, z1, z2⟩ := R.trk a _ hj
    exact ⟨u, kp a j u hj z1, z2⟩
  · unfold DL.given at q
    rw [if_neg h] at q
    unfold DL.back at q
    split at q
    · rename_i z; exact ht a _ z
    · rename_i z; exact ht a _ z
    · cases q
theorem de_lend {t : TE} {f : DM DV} (d : DE K E t f) : DE K E t (fLend f) := by
  intro σ H δ Ω R Q h
  unfold fLend at h
  split at h
  · rename_i dd δ1 hf
    split at h
    · rename_i hfl
      refine d σ H _ _ R.lend Q ?_
      rw [hf]
      exact fun H' Ω' e R' v rv => h H' _ e.given (R.given e R'.trk) v (Rep.flat hfl rv)
    · exact h.elim
  · rename_i ds δ1 hf
    split at h
    · rename_i hfl
      refine d σ H _ _ R.lend Q ?_
      rw [hf]
      intro H' Ω' e R' v ⟨a, ws, z1, z2, z3, z4⟩
      refine h H' _ e.given (R.given e R'.trk) v ⟨a, ws, z1, z2, ?_, Reps.flat hfl z4⟩
      unfold DL.given
      rw [if_neg, back_one z3]
      intro z
      obtain ⟨k, hk⟩ := own_of z
      obtain ⟨u, y1, _⟩ := R.trk a _ hk
      rw [e.new a (lent_own hk) (by rw [y1]; exact Option.some_ne_none _)] at z3
      cases z3
    · exact h.elim
  · exact h.elim
end
section
variable {X : Cx} {E : Str → Hp → Prop} {e : Expr} {f : DM DV}
theorem ped_lend (h : PED X E e f) : PED X E e (fLend f) := by
  obtain ⟨t, q, d⟩ := h
  exact ⟨t, q, de_lend d⟩
end
end DL
namespace DL
open PySem PySem.Spec PyProof.Rows L2
section
variable {X : Cx}
theorem op_notB : OpR X (compareOp .IsNot) (fun x y H Q => ∃ c d, x = .bl c ∧ y = .bl d ∧ Q (.bl (c != d)) H) := by
  intro pins s σ H x y v u Q I rx ry h
  obtain ⟨c, d, rfl, rfl, q⟩ := h
  cases rx
  cases ry
  exact isnot_bool (fin_bl I q rfl)
noncomputable def gIsNotB : D → D → Option DV
  | .bl c, .bl d => some (.val (.bl (c != d)))
  | _, _ => none
theorem cmp_isnotB : CmpD X .IsNot gIsNotB := ⟨_, op_notB, by
  intro E σ H δ Ω x y d1 d2 z Q R r1 r2 hz h
  unfold gIsNotB at hz
  split at hz
  · rename_i c d
    cases hz
    exact ⟨c, d, r1, r2, h.now R rfl⟩
  · cases hz⟩
end
end DL
namespace Lw
open PySem L2 DL PyProof.Rows
noncomputable def c_ACROSS : List (Str × Str) := [("f", "b"), ("b", "f")]
noncomputable abbrev c_FARTHEST : D := .int 2
noncomputable abbrev c_MOST_BORNE : D := .int 4
noncomputable def c_WAYS : List (Str × Str) := [("f", "k"), ("b", "p")]
noncomputable def top (i : Nat) : Stmt := PySem.Challenge.pw_loopbed_k11_refused_deeds.main.body.getD i (.Pass ⟨0, 0, 0, 0⟩)
theorem bo_ValueError : bootBuiltins "ValueError" = some (.type "ValueError") := by decide +kernel
theorem bo_abs : bootBuiltins "abs" = some (.builtin "abs") := by decide +kernel
theorem bo_all : bootBuiltins "all" = some (.builtin "all") := by decide +kernel
theorem bo_bool : bootBuiltins "bool" = some (.type "bool") := by decide +kernel
theorem bo_int : bootBuiltins "int" = some (.type "int") := by decide +kernel
theorem bo_len : bootBuiltins "len" = some (.builtin "len") := by decide +kernel
theorem bo_list : bootBuiltins "list" = some (.type "list") := by decide +kernel
theorem bo_max : bootBuiltins "max" = some (.builtin "max") := by decide +kernel
theorem bo_min : bootBuiltins "min" = some (.builtin "min") := by decide +kernel
theorem bo_str : bootBuiltins "str" = some (.type "str") := by decide +kernel
theorem bo_tuple : bootBuiltins "tuple" = some (.type "tuple") := by decide +kernel
noncomputable def tab_BedFault : Str → Option Bool := fun c => ([("Empty", true), ("Overfull", true), ("TooFar", true)] : List (Str × Bool)).lookup c
noncomputable def tab_Empty : Str → Option Bool := fun c => ([("Empty", true), ("Overfull", false), ("TooFar", false)] : List (Str × Bool)).lookup c
noncomputable def tab_LoopError : Str → Option Bool := fun c => ([("Empty", true), ("Overfull", true), ("TooFar", true)] : List (Str × Bool)).lookup c
noncomputable def tab_NothingDone : Str → Option Bool := fun c => ([("Empty", false), ("Overfull", false), ("TooFar", false)] : List (Str × Bool)).lookup c
noncomputable def tab_Overfull : Str → Option Bool := fun c => ([("Empty", false), ("Overfull", true), ("TooFar", false)] : List (Str × Bool)).lookup c
noncomputable def tab_TooFar : Str → Option Bool := fun c => ([("Empty", false), ("Overfull", false), ("TooFar", true)] : List (Str × Bool)).lookup c
noncomputable def tab_ValueError : Str → Option Bool := fun c => ([("Empty", true), ("Overfull", true), ("TooFar", true)] : List (Str × Bool)).lookup c
structure Txt (K : PySem.W.Frag) (mg : Str → Option Value) : Prop where
  b_ValueError : mg "ValueError" = none
  b_abs : mg "abs" = none
  b_all : mg "all" = none
  b_bool : mg "bool" = none
  b_int : mg "int" = none
  b_isinstance : mg "isinstance" = none
  b_len : mg "len" = none
  b_list : mg "list" = none
  b_max : mg "max" = none
  b_min : mg "min" = none
  b_range : mg "range" = none
  b_str : mg "str" = none
  b_tuple : mg "tuple" = none
  g_ACROSS : GlobTS K mg "ACROSS" c_ACROSS
  g_FARTHEST : GlobD K mg "FARTHEST" c_FARTHEST
  g_MOST_BORNE : GlobD K mg "MOST_BORNE" c_MOST_BORNE
  g_WAYS : GlobTS K mg "WAYS" c_WAYS
  e_Empty : ∃ C, ExcC K mg "Empty" C
  e_Overfull : ∃ C, ExcC K mg "Overfull" C
  e_TooFar : ∃ C, ExcC K mg "TooFar" C
  h_BedFault : ∃ D, mg "BedFault" = some (.ref D) ∧ TabX K mg (.ref D) tab_BedFault ∧ TabI K (.ref D) tab_BedFault
  h_Empty : ∃ D, mg "Empty" = some (.ref D) ∧ TabX K mg (.ref D) tab_Empty ∧ TabI K (.ref D) tab_Empty
  h_LoopError : ∃ D, mg "LoopError" = some (.ref D) ∧ TabX K mg (.ref D) tab_LoopError ∧ TabI K (.ref D) tab_LoopError
  h_NothingDone : ∃ D, mg "NothingDone" = some (.ref D) ∧ TabX K mg (.ref D) tab_NothingDone ∧ TabI K (.ref D) tab_NothingDone
  h_Overfull : ∃ D, mg "Overfull" = some (.ref D) ∧ TabX K mg (.ref D) tab_Overfull ∧ TabI K (.ref D) tab_Overfull
  h_TooFar : ∃ D, mg "TooFar" = some (.ref D) ∧ TabX K mg (.ref D) tab_TooFar ∧ TabI K (.ref D) tab_TooFar
  h_ValueError : TabI K (.type "ValueError") tab_ValueError
theorem nd_0 : (["spot", "self"] : List Str).Nodup := by decide +kernel
theorem nd_1 : (["held"] : List Str).Nodup := by decide +kernel
theorem nd_2 : (["step"] : List Str).Nodup := by decide +kernel
theorem nd_3 : (["k"] : List Str).Nodup := by decide +kernel
theorem nd_4 : (["k", "other", "to"] : List Str).Nodup := by decide +kernel
theorem nd_5 : (["k", "row", "at"] : List Str).Nodup := by decide +kernel
section
variable {P : Program} {w : World} {K : PySem.W.Frag} {mg : Str → Option Value} {base : Heap}
noncomputable abbrev s_Bed : Stmt := inClass (top 13) 0
theorem sc_Bed : FnScope ["self"] ["self"] (defScope s_Bed) := ⟨rfl, rfl, rfl, by decide +kernel, rfl, by decide +kernel, by decide +kernel⟩
theorem ok_Bed {f C : Addr} {fd : FuncData} (F : Fun K "__init__" "Bed.__init__" s_Bed f fd) (TB : BedTx K C) : FnOk P w K mg base CX0 1 f fd ["self"] (spInit C) := by
  refine F.ok sc_Bed (fun vs H Q E h => ?_) (fun cdv A outer s H vs Q E hr h => ?_)
  · obtain ⟨p, dx, rfl, _⟩ := h
    rfl
  · obtain ⟨p, dx, rfl, hp, k⟩ := h
    exact ⟨_, pss_cons (ps_fld (pv 0) pe_dnewT rfl) (pss_cons (ps_fld (pv 0) (pe_lst pa_nil) rfl) (pss_one (ps_fld (pv 0) (pe_lst pa_nil) rfl))), init_ok TB hp k⟩
noncomputable abbrev s_cell_at : Stmt := top 16
theorem sc_cell_at : FnScope ["script", "k"] ["script", "k"] (defScope s_cell_at) := ⟨rfl, rfl, rfl, by decide +kernel, rfl, by decide +kernel, by decide +kernel⟩
noncomputable def b_cell_at : DM Fl :=
    (fSeq (fIf (fTest (fBin (fVar 1) (fCB (fCons (fVar 0) fNil) gLen) (gCmp lt))) (fRet (fBin (fVar 0) (fVar 1) gIx)) fNext)
    (fRet (fC (.int 0))))
noncomputable def m_cell_at : List D → Ro := runP b_cell_at 2
theorem ok_cell_at {f : Addr} {fd : FuncData} (F : Fun K "_law_cell_at" "_law_cell_at" s_cell_at f fd) (T : Txt K mg) {C : Addr} (TB : BedTx K C)  : FnOk P w K mg base CX0 1 f fd ["script", "k"] (spP K (fun _ => .none) 2 m_cell_at) :=
  fnP F sc_cell_at fun cdv A outer s H E hr =>
      (psd_cons (psd_if (ptd_cmp cmp_lt (ped_var 1) (ped_cb cb_len T.b_len bo_len (pad_cons (ped_var 0) pad_nil)) (nomark _)) (psd_one (psd_ret (ped_ix (ped_var 0) (ped_var 1)))) psd_nil)
      (psd_one (psd_ret ped_int)))
noncomputable abbrev s_Bed_loops_at : Stmt := inClass (top 13) 9
theorem sc_Bed_loops_at : FnScope ["self", "spot"] ["self", "spot"] (defScope s_Bed_loops_at) := ⟨rfl, rfl, rfl, by decide +kernel, rfl, by decide +kernel, by decide +kernel⟩
noncomputable def b_Bed_loops_at : DM Fl :=
    (fRet (fBGet 0 (fVar 1)))
noncomputable def m_Bed_loops_at : List D → Ro := runP b_Bed_loops_at 2
theorem ok_Bed_loops_at {f : Addr} {fd : FuncData} (F : Fun K "loops_at" "Bed.loops_at" s_Bed_loops_at f fd) (T : Txt K mg) {C : Addr} (TB : BedTx K C)  : FnOk P w K mg base CX0 1 f fd ["self", "spot"] (spP K (fun _ => .none) 2 m_Bed_loops_at) :=
  fnP F sc_Bed_loops_at fun cdv A outer s H E hr =>
      (psd_one (psd_ret (ped_bget 0 TB (hu_of hr) (ped_var 1))))
noncomputable abbrev s_Bed_keep : Stmt := inClass (top 13) 10
theorem sc_Bed_keep : FnScope ["self", "deed", "spots"] ["self", "deed", "spots"] (defScope s_Bed_keep) := ⟨rfl, rfl, rfl, by decide +kernel, rfl, by decide +kernel, by decide +kernel⟩
noncomputable def b_Bed_keep : DM Fl :=
    (fAppP 0 (fTup (fCons (fVar 1) (fCons (fThaw 0 (fLC (fIt (fVar 2) gLstItems) (sName 0) (.ret true) (fTup (fCons (fVar 0) (fCons (fCallR 1 2 (fCons (fVar 0) fNil) m_Bed_loops_at) fNil))) [none, some 0])) fNil))))
noncomputable def m_Bed_keep : Bd → List D → Rw := runW b_Bed_keep 3
theorem ok_Bed_keep {f : Addr} {fd : FuncData} (F : Fun K "keep" "Bed.keep" s_Bed_keep f fd) (T : Txt K mg) {C : Addr} (TB : BedTx K C) (F_Bed_loops_at : MethP P w K mg base C 1 "loops_at" 2 m_Bed_loops_at) : FnOk P w K mg base CX0 2 f fd ["self", "deed", "spots"] (spW K (fun _ => .none) 3 m_Bed_keep) :=
  fnW F sc_Bed_keep fun cdv A outer s H E hr =>
      (psd_one (psd_appP 0 TB (ped_tup (pad_cons (ped_var 1) (pad_cons (ped_thaw 0 (ped_lc (N := ["spot", "self"]) (sel := [none, some 0]) ⟨rfl, rfl, rfl, rfl, rfl, rfl⟩ rfl (pid_list (ped_var 2)) (fun _ => pgd_name nd_0) (fun _ => ptsd_nil) (fun _ => (ped_tup (pad_cons (ped_var 0) (pad_cons (ped_methR 1 TB F_Bed_loops_at (hr.mono (by decide)) (pad_cons (ped_var 0) pad_nil)) pad_nil)))))) pad_nil)))))
noncomputable abbrev s_Bed_move : Stmt := inClass (top 13) 8
theorem sc_Bed_move : FnScope ["self", "deed", "source", "goal", "loops", "together"] ["self", "deed"] (defScope s_Bed_move) := ⟨rfl, rfl, rfl, by decide +kernel, rfl, by decide +kernel, by decide +kernel⟩
noncomputable def b_Bed_move : DM Fl :=
    (fSeq (fSet 2 (fKey (fCons (fBin (fVar 1) (fC (.int 1)) gIx) (fCons (fBin (fVar 1) (fC (.int 2)) gIx) fNil))))
    (fSeq (fSet 3 (fKey (fCons (fUn (fBin (fVar 1) (fC (.int 1)) gIx) (gTabIxS c_ACROSS)) (fCons (fBin (fVar 1) (fC (.int 3)) gIx) fNil))))
    (fSeq (fIf (fTest (fBin (fCB (fCons (fBin (fBin (fVar 1) (fC (.int 2)) gIx) (fBin (fVar 1) (fC (.int 3)) gIx) gSub) fNil) gAbs) (fC c_FARTHEST) (gCmp gt))) (fRaise "TooFar" (fun δ => (fun _ => true) δ && (fun δ => (fun _ => true) δ && (fun δ => (fun _ => true) δ && (fun δ => (okT 1) δ && (fun _ => true) δ) δ) δ) δ)) fNext)
    (fSeq (fSet 4 (fCallR 0 2 (fCons (fVar 2) fNil) m_Bed_loops_at))
    (fSeq (fIf (fNotT (fTru (fVar 4))) (fRaise "Empty" (fun δ => (fun _ => true) δ && (fun δ => (okT 1) δ && (fun _ => true) δ) δ)) fNext)
    (fSeq (fSet 5 (fBin (fCallR 0 2 (fCons (fVar 3) fNil) m_Bed_loops_at) (fVar 4) gAddT))
    (fSeq (fIf (fTest (fBin (fCB (fCons (fVar 5) fNil) gLen) (fC c_MOST_BORNE) (gCmp gt))) (fRaise "Overfull" (fun δ => (fun _ => true) δ && (fun δ => (okT 1) δ && (fun _ => true) δ) δ)) fNext)
    (fSeq (fDrop (fCallW 0 3 (fCons (fVar 1) (fCons (fLst (fCons (fVar 2) (fCons (fVar 3) fNil))) fNil)) m_Bed_keep))
    (fSeq (fBPut 0 (fTup fNil) (fVar 2))
    (fSeq (fBPut 0 (fVar 5) (fVar 3))
    (fRet (fC .non))))))))))))
noncomputable def m_Bed_move : Bd → List D → Rw := runWX b_Bed_move 6
theorem ok_Bed_move {f : Addr} {fd : FuncData} (F : Fun K "move" "Bed.move" s_Bed_move f fd) (T : Txt K mg) {C : Addr} (TB : BedTx K C) (F_Bed_loops_at : MethP P w K mg base C 1 "loops_at" 2 m_Bed_loops_at) (F_Bed_keep : MethW P w K mg base C 2 "keep" 3 m_Bed_keep) : FnOk P w K mg base (Fly P w) 3 f fd ["self", "deed"] (spW K (ceOf mg) 2 m_Bed_move) :=
  fnWX F sc_Bed_move fun cdv A outer s H E hr =>
      (psd_cons (psd_set 2 sc_Bed_move.nd (ped_key (pad_cons (ped_ix (ped_var 1) ped_int) (pad_cons (ped_ix (ped_var 1) ped_int) pad_nil))))
      (psd_cons (psd_set 3 sc_Bed_move.nd (ped_key (pad_cons (ped_tabixS T.g_ACROSS (ped_ix (ped_var 1) ped_int)) (pad_cons (ped_ix (ped_var 1) ped_int) pad_nil))))
      (psd_cons (psd_if (ptd_cmp cmp_gt (ped_cb cb_abs T.b_abs bo_abs (pad_cons (ped_bin bin_sub (ped_ix (ped_var 1) ped_int) (ped_ix (ped_var 1) ped_int)) pad_nil)) (ped_glob T.g_FARTHEST) (nomark _)) (psd_one (psd_raise thr_fly rfl T.e_TooFar.choose_spec (pmd_join (pxsd_cons pxd_const (pxsd_cons (pxd_fmtG T.g_FARTHEST) (pxsd_cons pxd_const (pxsd_cons (pxd_fmtT 1 hr) pxsd_nil))))))) psd_nil)
      (psd_cons (psd_set 4 sc_Bed_move.nd (ped_methR 0 TB F_Bed_loops_at (hr.mono (by decide)) (pad_cons (ped_var 2) pad_nil)))
      (psd_cons (psd_if (ptd_not (ptd_tru (ped_var 4))) (psd_one (psd_raise thr_fly rfl T.e_Empty.choose_spec (pmd_join (pxsd_cons pxd_const (pxsd_cons (pxd_fmtT 1 hr) pxsd_nil))))) psd_nil)
      (psd_cons (psd_set 5 sc_Bed_move.nd (ped_bin bin_addT (ped_methR 0 TB F_Bed_loops_at (hr.mono (by decide)) (pad_cons (ped_var 3) pad_nil)) (ped_var 4)))
      (psd_cons (psd_if (ptd_cmp cmp_gt (ped_cb cb_len T.b_len bo_len (pad_cons (ped_var 5) pad_nil)) (ped_glob T.g_MOST_BORNE) (nomark _)) (psd_one (psd_raise thr_fly rfl T.e_Overfull.choose_spec (pmd_join (pxsd_cons pxd_const (pxsd_cons (pxd_fmtT 1 hr) pxsd_nil))))) psd_nil)
      (psd_cons (psd_expr (ped_methWE 0 TB F_Bed_keep (hr.mono (by decide)) (pad_cons (ped_var 1) (pad_cons (ped_lst (pad_cons (ped_var 2) (pad_cons (ped_var 3) pad_nil))) pad_nil))))
      (psd_cons (psd_bput 0 TB (hu_of hr) (ped_tup pad_nil) (ped_var 2))
      (psd_cons (psd_bput 0 TB (hu_of hr) (ped_var 5) (ped_var 3))
      (psd_one (psd_ret ped_non))))))))))))
noncomputable abbrev s_Bed_new_loop : Stmt := inClass (top 13) 11
theorem sc_Bed_new_loop : FnScope ["self", "yarn", "way", "held"] ["self", "yarn", "way", "held"] (defScope s_Bed_new_loop) := ⟨rfl, rfl, rfl, by decide +kernel, rfl, by decide +kernel, by decide +kernel⟩
noncomputable def b_Bed_new_loop : DM Fl :=
    (fSeq (fAppK 0 (fTup (fCons (fVar 1) (fCons (fVar 2) (fCons (fVar 3) fNil)))))
    (fRet (fBin (fCB (fCons (fFld 0 1) fNil) gLen) (fC (.int 1)) gSub)))
noncomputable def m_Bed_new_loop : Bd → List D → Rw := runW b_Bed_new_loop 4
theorem ok_Bed_new_loop {f : Addr} {fd : FuncData} (F : Fun K "new_loop" "Bed.new_loop" s_Bed_new_loop f fd) (T : Txt K mg) {C : Addr} (TB : BedTx K C)  : FnOk P w K mg base CX0 1 f fd ["self", "yarn", "way", "held"] (spW K (fun _ => .none) 4 m_Bed_new_loop) :=
  fnW F sc_Bed_new_loop fun cdv A outer s H E hr =>
      (psd_cons (psd_appK 0 TB (ped_tup (pad_cons (ped_var 1) (pad_cons (ped_var 2) (pad_cons (ped_var 3) pad_nil)))))
      (psd_one (psd_ret (ped_bin bin_sub (ped_cb cb_len T.b_len bo_len (pad_cons (ped_knitted 0 TB) pad_nil)) ped_int))))
noncomputable abbrev s_Bed_knit : Stmt := inClass (top 13) 6
theorem sc_Bed_knit : FnScope ["self", "deed", "spot", "loops", "number"] ["self", "deed"] (defScope s_Bed_knit) := ⟨rfl, rfl, rfl, by decide +kernel, rfl, by decide +kernel, by decide +kernel⟩
noncomputable def b_Bed_knit : DM Fl :=
    (fSeq (fSet 2 (fKey (fCons (fBin (fVar 1) (fC (.int 1)) gIx) (fCons (fBin (fVar 1) (fC (.int 2)) gIx) fNil))))
    (fSeq (fSet 3 (fCallR 0 2 (fCons (fVar 2) fNil) m_Bed_loops_at))
    (fSeq (fIf (fNotT (fTru (fVar 3))) (fRaise "Empty" (fun δ => (fun _ => true) δ && (fun δ => (okT 1) δ && (fun _ => true) δ) δ)) fNext)
    (fSeq (fDrop (fCallW 0 3 (fCons (fVar 1) (fCons (fLst (fCons (fVar 2) fNil)) fNil)) m_Bed_keep))
    (fSeq (fSet 4 (fCallW 0 4 (fCons (fBin (fVar 1) (fC (.int 3)) gIx) (fCons (fUn (fBin (fVar 1) (fC (.int 1)) gIx) (gTabIxS c_WAYS)) (fCons (fVar 3) fNil))) m_Bed_new_loop))
    (fSeq (fBPut 0 (fTup (fCons (fVar 4) fNil)) (fVar 2))
    (fRet (fVar 4))))))))
noncomputable def m_Bed_knit : Bd → List D → Rw := runWX b_Bed_knit 5
theorem ok_Bed_knit {f : Addr} {fd : FuncData} (F : Fun K "knit" "Bed.knit" s_Bed_knit f fd) (T : Txt K mg) {C : Addr} (TB : BedTx K C) (F_Bed_loops_at : MethP P w K mg base C 1 "loops_at" 2 m_Bed_loops_at) (F_Bed_keep : MethW P w K mg base C 2 "keep" 3 m_Bed_keep) (F_Bed_new_loop : MethW P w K mg base C 1 "new_loop" 4 m_Bed_new_loop) : FnOk P w K mg base (Fly P w) 3 f fd ["self", "deed"] (spW K (ceOf mg) 2 m_Bed_knit) :=
  fnWX F sc_Bed_knit fun cdv A outer s H E hr =>
      (psd_cons (psd_set 2 sc_Bed_knit.nd (ped_key (pad_cons (ped_ix (ped_var 1) ped_int) (pad_cons (ped_ix (ped_var 1) ped_int) pad_nil))))
      (psd_cons (psd_set 3 sc_Bed_knit.nd (ped_methR 0 TB F_Bed_loops_at (hr.mono (by decide)) (pad_cons (ped_var 2) pad_nil)))
      (psd_cons (psd_if (ptd_not (ptd_tru (ped_var 3))) (psd_one (psd_raise thr_fly rfl T.e_Empty.choose_spec (pmd_join (pxsd_cons pxd_const (pxsd_cons (pxd_fmtT 1 hr) pxsd_nil))))) psd_nil)
      (psd_cons (psd_expr (ped_methWE 0 TB F_Bed_keep (hr.mono (by decide)) (pad_cons (ped_var 1) (pad_cons (ped_lst (pad_cons (ped_var 2) pad_nil)) pad_nil))))
      (psd_cons (psd_set 4 sc_Bed_knit.nd (ped_methWE 0 TB F_Bed_new_loop (hr.mono (by decide)) (pad_cons (ped_ix (ped_var 1) ped_int) (pad_cons (ped_tabixS T.g_WAYS (ped_ix (ped_var 1) ped_int)) (pad_cons (ped_var 3) pad_nil)))))
      (psd_cons (psd_bput 0 TB (hu_of hr) (ped_tup (pad_cons (ped_var 4) pad_nil)) (ped_var 2))
      (psd_one (psd_ret (ped_var 4)))))))))
noncomputable abbrev s_Bed_tuck : Stmt := inClass (top 13) 7
theorem sc_Bed_tuck : FnScope ["self", "deed", "spot", "loops", "number"] ["self", "deed"] (defScope s_Bed_tuck) := ⟨rfl, rfl, rfl, by decide +kernel, rfl, by decide +kernel, by decide +kernel⟩
noncomputable def b_Bed_tuck : DM Fl :=
    (fSeq (fSet 2 (fKey (fCons (fBin (fVar 1) (fC (.int 1)) gIx) (fCons (fBin (fVar 1) (fC (.int 2)) gIx) fNil))))
    (fSeq (fSet 3 (fCallR 0 2 (fCons (fVar 2) fNil) m_Bed_loops_at))
    (fSeq (fIf (fTest (fBin (fCB (fCons (fVar 3) fNil) gLen) (fC c_MOST_BORNE) (gCmp ge))) (fRaise "Overfull" (fun δ => (fun _ => true) δ && (fun δ => (okT 1) δ && (fun _ => true) δ) δ)) fNext)
    (fSeq (fDrop (fCallW 0 3 (fCons (fVar 1) (fCons (fLst (fCons (fVar 2) fNil)) fNil)) m_Bed_keep))
    (fSeq (fSet 4 (fCallW 0 4 (fCons (fBin (fVar 1) (fC (.int 3)) gIx) (fCons (fC (.str "t")) (fCons (fTup fNil) fNil))) m_Bed_new_loop))
    (fSeq (fBPut 0 (fBin (fVar 3) (fTup (fCons (fVar 4) fNil)) gAddT) (fVar 2))
    (fRet (fVar 4))))))))
noncomputable def m_Bed_tuck : Bd → List D → Rw := runWX b_Bed_tuck 5
theorem ok_Bed_tuck {f : Addr} {fd : FuncData} (F : Fun K "tuck" "Bed.tuck" s_Bed_tuck f fd) (T : Txt K mg) {C : Addr} (TB : BedTx K C) (F_Bed_loops_at : MethP P w K mg base C 1 "loops_at" 2 m_Bed_loops_at) (F_Bed_keep : MethW P w K mg base C 2 "keep" 3 m_Bed_keep) (F_Bed_new_loop : MethW P w K mg base C 1 "new_loop" 4 m_Bed_new_loop) : FnOk P w K mg base (Fly P w) 3 f fd ["self", "deed"] (spW K (ceOf mg) 2 m_Bed_tuck) :=
  fnWX F sc_Bed_tuck fun cdv A outer s H E hr =>
      (psd_cons (psd_set 2 sc_Bed_tuck.nd (ped_key (pad_cons (ped_ix (ped_var 1) ped_int) (pad_cons (ped_ix (ped_var 1) ped_int) pad_nil))))
      (psd_cons (psd_set 3 sc_Bed_tuck.nd (ped_methR 0 TB F_Bed_loops_at (hr.mono (by decide)) (pad_cons (ped_var 2) pad_nil)))
      (psd_cons (psd_if (ptd_cmp cmp_ge (ped_cb cb_len T.b_len bo_len (pad_cons (ped_var 3) pad_nil)) (ped_glob T.g_MOST_BORNE) (nomark _)) (psd_one (psd_raise thr_fly rfl T.e_Overfull.choose_spec (pmd_join (pxsd_cons pxd_const (pxsd_cons (pxd_fmtT 1 hr) pxsd_nil))))) psd_nil)
      (psd_cons (psd_expr (ped_methWE 0 TB F_Bed_keep (hr.mono (by decide)) (pad_cons (ped_var 1) (pad_cons (ped_lst (pad_cons (ped_var 2) pad_nil)) pad_nil))))
      (psd_cons (psd_set 4 sc_Bed_tuck.nd (ped_methWE 0 TB F_Bed_new_loop (hr.mono (by decide)) (pad_cons (ped_ix (ped_var 1) ped_int) (pad_cons ped_str (pad_cons (ped_tup pad_nil) pad_nil)))))
      (psd_cons (psd_bput 0 TB (hu_of hr) (ped_bin bin_addT (ped_var 3) (ped_tup (pad_cons (ped_var 4) pad_nil))) (ped_var 2))
      (psd_one (psd_ret (ped_var 4)))))))))
noncomputable abbrev s_Bed_act : Stmt := inClass (top 13) 1
theorem sc_Bed_act : FnScope ["self", "deed"] ["self", "deed"] (defScope s_Bed_act) := ⟨rfl, rfl, rfl, by decide +kernel, rfl, by decide +kernel, by decide +kernel⟩
noncomputable def b_Bed_act : DM Fl :=
    (fSeq (fIf (fTest (fBin (fBin (fVar 1) (fC (.int 0)) gIx) (fC (.str "knit")) gEq)) (fRet (fCallW 0 2 (fCons (fVar 1) fNil) m_Bed_knit)) fNext)
    (fSeq (fIf (fTest (fBin (fBin (fVar 1) (fC (.int 0)) gIx) (fC (.str "tuck")) gEq)) (fRet (fCallW 0 2 (fCons (fVar 1) fNil) m_Bed_tuck)) fNext)
    (fRet (fCallW 0 2 (fCons (fVar 1) fNil) m_Bed_move))))
noncomputable def m_Bed_act : Bd → List D → Rw := runWX b_Bed_act 2
theorem ok_Bed_act {f : Addr} {fd : FuncData} (F : Fun K "act" "Bed.act" s_Bed_act f fd) (T : Txt K mg) {C : Addr} (TB : BedTx K C) (F_Bed_move : MethX P w K mg base C 3 "move" 2 m_Bed_move) (F_Bed_knit : MethX P w K mg base C 3 "knit" 2 m_Bed_knit) (F_Bed_tuck : MethX P w K mg base C 3 "tuck" 2 m_Bed_tuck) : FnOk P w K mg base (Fly P w) 4 f fd ["self", "deed"] (spW K (ceOf mg) 2 m_Bed_act) :=
  fnWX F sc_Bed_act fun cdv A outer s H E hr =>
      (psd_cons (psd_if (ptd_cmp (cmp_eq hr.units) (ped_ix (ped_var 1) ped_int) ped_str (nomark _)) (psd_one (psd_ret (ped_methX 0 TB F_Bed_knit leave_next (hr.mono (by decide)) (pad_cons (ped_var 1) pad_nil)))) psd_nil)
      (psd_cons (psd_if (ptd_cmp (cmp_eq hr.units) (ped_ix (ped_var 1) ped_int) ped_str (nomark _)) (psd_one (psd_ret (ped_methX 0 TB F_Bed_tuck leave_next (hr.mono (by decide)) (pad_cons (ped_var 1) pad_nil)))) psd_nil)
      (psd_one (psd_ret (ped_methX 0 TB F_Bed_move leave_next (hr.mono (by decide)) (pad_cons (ped_var 1) pad_nil))))))
noncomputable abbrev s_at : Stmt := top 22
theorem sc_at : FnScope ["row", "at"] ["row", "at"] (defScope s_at) := ⟨rfl, rfl, rfl, by decide +kernel, rfl, by decide +kernel, by decide +kernel⟩
noncomputable def b_at : DM Fl :=
    (fSeq (fIf (fTest (fBin (fVar 0) (fC (.str "f")) gEq)) (fRet (fVar 1)) fNext)
    (fRet (fBin (fC (.int 16)) (fVar 1) gAdd)))
noncomputable def m_at : List D → Ro := runP b_at 2
theorem ok_at {f : Addr} {fd : FuncData} (F : Fun K "_law_at" "_law_at" s_at f fd) (T : Txt K mg) {C : Addr} (TB : BedTx K C)  : FnOk P w K mg base CX0 1 f fd ["row", "at"] (spP K (fun _ => .none) 2 m_at) :=
  fnP F sc_at fun cdv A outer s H E hr =>
      (psd_cons (psd_if (ptd_cmp (cmp_eq hr.units) (ped_var 0) ped_str (nomark _)) (psd_one (psd_ret (ped_var 1))) psd_nil)
      (psd_one (psd_ret (ped_bin bin_add ped_int (ped_var 1)))))
noncomputable abbrev s_do : Stmt := top 23
theorem sc_do : FnScope ["hooks", "cloth", "deed", "here", "there", "way"] ["hooks", "cloth", "deed"] (defScope s_do) := ⟨rfl, rfl, rfl, by decide +kernel, rfl, by decide +kernel, by decide +kernel⟩
noncomputable def b_do : DM Fl :=
    (fSeq (fSet 3 (fCall 2 (fCons (fBin (fVar 2) (fC (.int 1)) gIx) (fCons (fBin (fVar 2) (fC (.int 2)) gIx) fNil)) m_at))
    (fIf (fTest (fBin (fBin (fVar 2) (fC (.int 0)) gIx) (fC (.str "move")) gEq)) (fSeq (fSet 4 (fBin (fC (.int 16)) (fBin (fVar 2) (fC (.int 3)) gIx) gAdd))
    (fSeq (fIf (fTest (fBin (fBin (fVar 2) (fC (.int 1)) gIx) (fC (.str "b")) gEq)) (fSet 4 (fBin (fVar 2) (fC (.int 3)) gIx)) fNext)
    (fSeq (fPutAt 0 (fBin (fBin (fVar 0) (fVar 4) gIx) (fBin (fVar 0) (fVar 3) gIx) gAdd) (fVar 4))
    (fPutAt 0 (fLst fNil) (fVar 3))))) (fIf (fTest (fBin (fBin (fVar 2) (fC (.int 0)) gIx) (fC (.str "tuck")) gEq)) (fSeq (fPutAt 0 (fBin (fBin (fVar 0) (fVar 3) gIx) (fLst (fCons (fCB (fCons (fVar 1) fNil) gLen) fNil)) gAdd) (fVar 3))
    (fApp' 1 (fTup (fCons (fBin (fVar 2) (fC (.int 3)) gIx) (fCons (fC (.str "t")) (fCons (fTup fNil) fNil)))))) (fSeq (fSet 5 (fC (.str "p")))
    (fSeq (fIf (fTest (fBin (fBin (fVar 2) (fC (.int 1)) gIx) (fC (.str "f")) gEq)) (fSet 5 (fC (.str "k"))) fNext)
    (fSeq (fApp' 1 (fTup (fCons (fBin (fVar 2) (fC (.int 3)) gIx) (fCons (fVar 5) (fCons (fCB (fCons (fBin (fVar 0) (fVar 3) gIx) fNil) gTuple) fNil)))))
    (fPutAt 0 (fLst (fCons (fBin (fCB (fCons (fVar 1) fNil) gLen) (fC (.int 1)) gSub) fNil)) (fVar 3))))))))
noncomputable def m_do : List D → List (List D) → Rn := runN b_do 6 [0, 1]
theorem ok_do {f : Addr} {fd : FuncData} (F : Fun K "_law_do" "_law_do" s_do f fd) (T : Txt K mg) {C : Addr} (TB : BedTx K C) (F_at : DefP P w K mg base 1 "_law_at" 2 m_at) : FnOk P w K mg base CX0 2 f fd ["hooks", "cloth", "deed"] (spN K 3 [0, 1] m_do) :=
  fnN [0, 1] F sc_do fun cdv A outer s H E hr =>
      (psd_cons (psd_set 3 sc_do.nd (ped_call F_at (hr.mono (by decide)) (pad_cons (ped_ix (ped_var 2) ped_int) (pad_cons (ped_ix (ped_var 2) ped_int) pad_nil))))
      (psd_one (psd_if (ptd_cmp (cmp_eq hr.units) (ped_ix (ped_var 2) ped_int) ped_str (nomark _)) (psd_cons (psd_set 4 sc_do.nd (ped_bin bin_add ped_int (ped_ix (ped_var 2) ped_int)))
      (psd_cons (psd_if (ptd_cmp (cmp_eq hr.units) (ped_ix (ped_var 2) ped_int) ped_str (nomark _)) (psd_one (psd_set 4 sc_do.nd (ped_ix (ped_var 2) ped_int))) psd_nil)
      (psd_cons (psd_putat 0 (ped_bin bin_add (ped_ix (ped_var 0) (ped_var 4)) (ped_ix (ped_var 0) (ped_var 3))) (ped_var 4))
      (psd_one (psd_putat 0 (ped_lst pad_nil) (ped_var 3)))))) (psd_one (psd_if (ptd_cmp (cmp_eq hr.units) (ped_ix (ped_var 2) ped_int) ped_str (nomark _)) (psd_cons (psd_putat 0 (ped_bin bin_add (ped_ix (ped_var 0) (ped_var 3)) (ped_lst (pad_cons (ped_cb cb_len T.b_len bo_len (pad_cons (ped_var 1) pad_nil)) pad_nil))) (ped_var 3))
      (psd_one (psd_app 1 (ped_tup (pad_cons (ped_ix (ped_var 2) ped_int) (pad_cons ped_str (pad_cons (ped_tup pad_nil) pad_nil))))))) (psd_cons (psd_set 5 sc_do.nd ped_str)
      (psd_cons (psd_if (ptd_cmp (cmp_eq hr.units) (ped_ix (ped_var 2) ped_int) ped_str (nomark _)) (psd_one (psd_set 5 sc_do.nd ped_str)) psd_nil)
      (psd_cons (psd_app 1 (ped_tup (pad_cons (ped_ix (ped_var 2) ped_int) (pad_cons (ped_var 5) (pad_cons (ped_cty cb_tuple T.b_tuple bo_tuple (pad_cons (ped_ix (ped_var 0) (ped_var 3)) pad_nil)) pad_nil)))))
      (psd_one (psd_putat 0 (ped_lst (pad_cons (ped_bin bin_sub (ped_cb cb_len T.b_len bo_len (pad_cons (ped_var 1) pad_nil)) ped_int) pad_nil)) (ped_var 3)))))))))))
noncomputable abbrev s_hook : Stmt := top 20
theorem sc_hook : FnScope ["hooks", "row", "at"] ["hooks", "row", "at"] (defScope s_hook) := ⟨rfl, rfl, rfl, by decide +kernel, rfl, by decide +kernel, by decide +kernel⟩
noncomputable def b_hook : DM Fl :=
    (fSeq (fIf (fTest (fBin (fVar 1) (fC (.str "f")) gEq)) (fRet (fBin (fVar 0) (fVar 2) gIx)) fNext)
    (fRet (fBin (fVar 0) (fBin (fC (.int 16)) (fVar 2) gAdd) gIx)))
noncomputable def m_hook : List D → List (List D) → Rn := runN b_hook 3 [0]
theorem ok_hook {f : Addr} {fd : FuncData} (F : Fun K "_law_hook" "_law_hook" s_hook f fd) (T : Txt K mg) {C : Addr} (TB : BedTx K C)  : FnOk P w K mg base CX0 1 f fd ["hooks", "row", "at"] (spN K 3 [0] m_hook) :=
  fnN [0] F sc_hook fun cdv A outer s H E hr =>
      (psd_cons (psd_if (ptd_cmp (cmp_eq hr.units) (ped_var 1) ped_str (nomark _)) (psd_one (psd_ret (ped_ix (ped_var 0) (ped_var 2)))) psd_nil)
      (psd_one (psd_ret (ped_ix (ped_var 0) (ped_bin bin_add ped_int (ped_var 2))))))
noncomputable abbrev s_word : Stmt := top 21
theorem sc_word : FnScope ["hooks", "deed", "here", "other"] ["hooks", "deed"] (defScope s_word) := ⟨rfl, rfl, rfl, by decide +kernel, rfl, by decide +kernel, by decide +kernel⟩
noncomputable def b_word : DM Fl :=
    (fSeq (fSet 2 (fCallN 3 [0] (fCons (fVar 0) (fCons (fBin (fVar 1) (fC (.int 1)) gIx) (fCons (fBin (fVar 1) (fC (.int 2)) gIx) fNil))) m_hook))
    (fSeq (fIf (fTest (fBin (fBin (fVar 1) (fC (.int 0)) gIx) (fC (.str "move")) gEq)) (fSeq (fIf (fOrT (fTest (fBin (fBin (fBin (fVar 1) (fC (.int 2)) gIx) (fBin (fVar 1) (fC (.int 3)) gIx) gSub) (fC (.int 2)) (gCmp gt))) (fTest (fBin (fBin (fBin (fVar 1) (fC (.int 3)) gIx) (fBin (fVar 1) (fC (.int 2)) gIx) gSub) (fC (.int 2)) (gCmp gt)))) (fRet (fC (.str "far"))) fNext)
    (fSeq (fIf (fTest (fBin (fVar 2) (fLst fNil) gEq)) (fRet (fC (.str "empty"))) fNext)
    (fSeq (fSet 3 (fC (.str "f")))
    (fSeq (fIf (fTest (fBin (fBin (fVar 1) (fC (.int 1)) gIx) (fC (.str "f")) gEq)) (fSet 3 (fC (.str "b"))) fNext)
    (fSeq (fIf (fTest (fBin (fBin (fCB (fCons (fVar 2) fNil) gLen) (fCB (fCons (fCallN 3 [0] (fCons (fVar 0) (fCons (fVar 3) (fCons (fBin (fVar 1) (fC (.int 3)) gIx) fNil))) m_hook) fNil) gLen) gAdd) (fC (.int 4)) (gCmp gt))) (fRet (fC (.str "full"))) fNext)
    (fRet (fC .non))))))) fNext)
    (fSeq (fIf (fAndT (fTest (fBin (fBin (fVar 1) (fC (.int 0)) gIx) (fC (.str "knit")) gEq)) (fTest (fBin (fVar 2) (fLst fNil) gEq))) (fRet (fC (.str "empty"))) fNext)
    (fSeq (fIf (fAndT (fTest (fBin (fBin (fVar 1) (fC (.int 0)) gIx) (fC (.str "tuck")) gEq)) (fTest (fBin (fCB (fCons (fVar 2) fNil) gLen) (fC (.int 4)) gEq))) (fRet (fC (.str "full"))) fNext)
    (fRet (fC .non))))))
noncomputable def m_word : List D → List (List D) → Rn := runN b_word 4 [0]
theorem ok_word {f : Addr} {fd : FuncData} (F : Fun K "_law_word" "_law_word" s_word f fd) (T : Txt K mg) {C : Addr} (TB : BedTx K C) (F_hook : DefN P w K mg base 1 "_law_hook" 3 [0] m_hook) : FnOk P w K mg base CX0 2 f fd ["hooks", "deed"] (spN K 2 [0] m_word) :=
  fnN [0] F sc_word fun cdv A outer s H E hr =>
      (psd_cons (psd_set 2 sc_word.nd (ped_callN F_hook (hr.mono (by decide)) (pad_cons (ped_var 0) (pad_cons (ped_ix (ped_var 1) ped_int) (pad_cons (ped_ix (ped_var 1) ped_int) pad_nil)))))
      (psd_cons (psd_if (ptd_cmp (cmp_eq hr.units) (ped_ix (ped_var 1) ped_int) ped_str (nomark _)) (psd_cons (psd_if (ptd_bool (pwd_or (ptd_cmp cmp_gt (ped_bin bin_sub (ped_ix (ped_var 1) ped_int) (ped_ix (ped_var 1) ped_int)) ped_int (nomark _)) (pwd_or1 (ptd_cmp cmp_gt (ped_bin bin_sub (ped_ix (ped_var 1) ped_int) (ped_ix (ped_var 1) ped_int)) ped_int (nomark _))))) (psd_one (psd_ret ped_str)) psd_nil)
      (psd_cons (psd_if (ptd_cmp (cmp_eq hr.units) (ped_var 2) (ped_lst pad_nil) (nomark _)) (psd_one (psd_ret ped_str)) psd_nil)
      (psd_cons (psd_set 3 sc_word.nd ped_str)
      (psd_cons (psd_if (ptd_cmp (cmp_eq hr.units) (ped_ix (ped_var 1) ped_int) ped_str (nomark _)) (psd_one (psd_set 3 sc_word.nd ped_str)) psd_nil)
      (psd_cons (psd_if (ptd_cmp cmp_gt (ped_bin bin_add (ped_cb cb_len T.b_len bo_len (pad_cons (ped_var 2) pad_nil)) (ped_cb cb_len T.b_len bo_len (pad_cons (ped_callN F_hook (hr.mono (by decide)) (pad_cons (ped_var 0) (pad_cons (ped_var 3) (pad_cons (ped_ix (ped_var 1) ped_int) pad_nil)))) pad_nil))) ped_int (nomark _)) (psd_one (psd_ret ped_str)) psd_nil)
      (psd_one (psd_ret ped_non))))))) psd_nil)
      (psd_cons (psd_if (ptd_bool (pwd_and (ptd_cmp (cmp_eq hr.units) (ped_ix (ped_var 1) ped_int) ped_str (nomark _)) (pwd_and1 (ptd_cmp (cmp_eq hr.units) (ped_var 2) (ped_lst pad_nil) (nomark _))))) (psd_one (psd_ret ped_str)) psd_nil)
      (psd_cons (psd_if (ptd_bool (pwd_and (ptd_cmp (cmp_eq hr.units) (ped_ix (ped_var 1) ped_int) ped_str (nomark _)) (pwd_and1 (ptd_cmp (cmp_eq hr.units) (ped_cb cb_len T.b_len bo_len (pad_cons (ped_var 2) pad_nil)) ped_int (nomark _))))) (psd_one (psd_ret ped_str)) psd_nil)
      (psd_one (psd_ret ped_non))))))
noncomputable abbrev s_own : Stmt := top 24
theorem sc_own : FnScope ["e", "own"] ["e"] (defScope s_own) := ⟨rfl, rfl, rfl, by decide +kernel, rfl, by decide +kernel, by decide +kernel⟩
noncomputable def b_own : DM Fl :=
    (fSeq (fSet 1 (fAndV (fUn (fVar 0) (gIsX tab_BedFault)) (fAndV (fUn (fVar 0) (gIsX tab_LoopError)) (fUn (fVar 0) (gIsX tab_ValueError)))))
    (fRet (fAndV (fVar 1) (fNotV (fUn (fVar 0) (gIsX tab_NothingDone))))))
noncomputable def m_own : List D → Ro := runP b_own 2
theorem ok_own {f : Addr} {fd : FuncData} (F : Fun K "_law_own" "_law_own" s_own f fd) (T : Txt K mg) {C : Addr} (TB : BedTx K C)  : FnOkH P w K mg base CX0 1 f fd ["e"] (spP K (fun _ => .none) 1 m_own) :=
  fnH F sc_own fun cdv A outer s H E hr =>
      (psd_cons (psd_set 1 sc_own.nd (ped_and (ped_isx (v := .ref T.h_BedFault.choose) T.h_BedFault.choose_spec.2.2 (fun _ z => z) (pe_glob rfl T.h_BedFault.choose_spec.1 rfl) T.b_isinstance (ped_var 0)) (ped_and (ped_isx (v := .ref T.h_LoopError.choose) T.h_LoopError.choose_spec.2.2 (fun _ z => z) (pe_glob rfl T.h_LoopError.choose_spec.1 rfl) T.b_isinstance (ped_var 0)) (ped_one (ped_isx (v := .ty "ValueError") T.h_ValueError (fun _ z => z) (pe_bltn (v := .ty "ValueError") rfl T.b_ValueError bo_ValueError rfl) T.b_isinstance (ped_var 0))))))
      (psd_one (psd_ret (ped_and (ped_var 1) (ped_one (ped_not (ped_isx (v := .ref T.h_NothingDone.choose) T.h_NothingDone.choose_spec.2.2 (fun _ z => z) (pe_glob rfl T.h_NothingDone.choose_spec.1 rfl) T.b_isinstance (ped_var 0))))))))
noncomputable abbrev s_act : Stmt := top 25
theorem sc_act : FnScope ["bed", "deed", "e"] ["bed", "deed"] (defScope s_act) := ⟨rfl, rfl, rfl, by decide +kernel, rfl, by decide +kernel, by decide +kernel⟩
noncomputable def b_act : DM Fl :=
    (fTryR (fTupX (.str "done") (fCallWX 0 2 (fCons (fVar 1) fNil) m_Bed_act)) (fun c => match tab_TooFar c with | some true => fun δ => rForget 2 ((fRet (fTup (fCons (fC (.str "far")) (fCons (fAndV (fCall 1 (fCons (fVar 2) fNil) m_own) (fAndV (fNotV (fUn (fVar 2) (gIsX tab_Empty))) (fNotV (fUn (fVar 2) (gIsX tab_Overfull))))) fNil)))) (δ.set 2 (.sh (.exc c)))) | some false => (fun c => match tab_Empty c with | some true => fun δ => rForget 2 ((fRet (fTup (fCons (fC (.str "empty")) (fCons (fAndV (fCall 1 (fCons (fVar 2) fNil) m_own) (fAndV (fNotV (fUn (fVar 2) (gIsX tab_TooFar))) (fNotV (fUn (fVar 2) (gIsX tab_Overfull))))) fNil)))) (δ.set 2 (.sh (.exc c)))) | some false => (fun c => match tab_Overfull c with | some true => fun δ => rForget 2 ((fRet (fTup (fCons (fC (.str "full")) (fCons (fAndV (fCall 1 (fCons (fVar 2) fNil) m_own) (fAndV (fNotV (fUn (fVar 2) (gIsX tab_Empty))) (fNotV (fUn (fVar 2) (gIsX tab_TooFar))))) fNil)))) (δ.set 2 (.sh (.exc c)))) | some false => (fun _ _ => .un) c | none => fun _ => .un) c | none => fun _ => .un) c | none => fun _ => .un))
noncomputable def m_act : Bd → List D → Rw := runW b_act 3
theorem ok_act {f : Addr} {fd : FuncData} (F : Fun K "_law_act" "_law_act" s_act f fd) (T : Txt K mg) {C : Addr} (TB : BedTx K C) (F_Bed_act : MethX P w K mg base C 4 "act" 2 m_Bed_act) (F_own : DefH P w K mg base 1 "_law_own" 1 m_own) : FnOk P w K mg base CX0 5 f fd ["bed", "deed"] (spW K (fun _ => .none) 2 m_act) :=
  fnW F sc_act fun cdv A outer s H E hr =>
      (psd_one (psd_tryR (pxe_tupX (pxe_meth 0 TB F_Bed_act (hr.mono (by decide)) (pad_cons (ped_var 1) pad_nil))) (hdd_consB 2 T.h_TooFar.choose_spec.2.1 T.h_TooFar.choose_spec.1 sc_act.nd (fun _ => (psd_one (psd_ret (ped_tup (pad_cons ped_str (pad_cons (ped_and (ped_callH F_own (hr.mark.mono (by decide)) (pad_cons (ped_var 2) pad_nil)) (ped_and (ped_not (ped_isx (v := .ref T.h_Empty.choose) T.h_Empty.choose_spec.2.2 (fun _ z => z) (pe_glob rfl T.h_Empty.choose_spec.1 rfl) T.b_isinstance (ped_var 2))) (ped_one (ped_not (ped_isx (v := .ref T.h_Overfull.choose) T.h_Overfull.choose_spec.2.2 (fun _ z => z) (pe_glob rfl T.h_Overfull.choose_spec.1 rfl) T.b_isinstance (ped_var 2)))))) pad_nil)))))) (hdd_consB 2 T.h_Empty.choose_spec.2.1 T.h_Empty.choose_spec.1 sc_act.nd (fun _ => (psd_one (psd_ret (ped_tup (pad_cons ped_str (pad_cons (ped_and (ped_callH F_own (hr.mark.mono (by decide)) (pad_cons (ped_var 2) pad_nil)) (ped_and (ped_not (ped_isx (v := .ref T.h_TooFar.choose) T.h_TooFar.choose_spec.2.2 (fun _ z => z) (pe_glob rfl T.h_TooFar.choose_spec.1 rfl) T.b_isinstance (ped_var 2))) (ped_one (ped_not (ped_isx (v := .ref T.h_Overfull.choose) T.h_Overfull.choose_spec.2.2 (fun _ z => z) (pe_glob rfl T.h_Overfull.choose_spec.1 rfl) T.b_isinstance (ped_var 2)))))) pad_nil)))))) (hdd_consB 2 T.h_Overfull.choose_spec.2.1 T.h_Overfull.choose_spec.1 sc_act.nd (fun _ => (psd_one (psd_ret (ped_tup (pad_cons ped_str (pad_cons (ped_and (ped_callH F_own (hr.mark.mono (by decide)) (pad_cons (ped_var 2) pad_nil)) (ped_and (ped_not (ped_isx (v := .ref T.h_Empty.choose) T.h_Empty.choose_spec.2.2 (fun _ z => z) (pe_glob rfl T.h_Empty.choose_spec.1 rfl) T.b_isinstance (ped_var 2))) (ped_one (ped_not (ped_isx (v := .ref T.h_TooFar.choose) T.h_TooFar.choose_spec.2.2 (fun _ z => z) (pe_glob rfl T.h_TooFar.choose_spec.1 rfl) T.b_isinstance (ped_var 2)))))) pad_nil)))))) hdd_nil)))))
noncomputable abbrev s_whole : Stmt := top 15
theorem sc_whole : FnScope ["found"] ["found"] (defScope s_whole) := ⟨rfl, rfl, rfl, by decide +kernel, rfl, by decide +kernel, by decide +kernel⟩
noncomputable def b_whole : DM Fl :=
    (fRet (fAndV (fUn (fVar 0) (gIs "int")) (fNotV (fUn (fVar 0) (gIs "bool")))))
noncomputable def m_whole : List D → Ro := runP b_whole 1
theorem ok_whole {f : Addr} {fd : FuncData} (F : Fun K "_law_whole" "_law_whole" s_whole f fd) (T : Txt K mg) {C : Addr} (TB : BedTx K C)  : FnOk P w K mg base CX0 1 f fd ["found"] (spP K (fun _ => .none) 1 m_whole) :=
  fnP F sc_whole fun cdv A outer s H E hr =>
      (psd_one (psd_ret (ped_and (ped_isi T.b_isinstance T.b_int bo_int (ped_var 0)) (ped_one (ped_not (ped_isi T.b_isinstance T.b_bool bo_bool (ped_var 0)))))))
noncomputable abbrev s_loop : Stmt := top 17
theorem sc_loop : FnScope ["found"] ["found"] (defScope s_loop) := ⟨rfl, rfl, rfl, by decide +kernel, rfl, by decide +kernel, by decide +kernel⟩
noncomputable def b_loop : DM Fl :=
    (fSeq (fIf (fOrT (fNotT (fTest (fUn (fVar 0) (gIs "tuple")))) (fTest (fBin (fCB (fCons (fVar 0) fNil) gLen) (fC (.int 3)) gNe))) (fRet (fC (.bl false))) fNext)
    (fSeq (fIf (fOrT (fNotT (fTest (fUn (fBin (fVar 0) (fC (.int 0)) gIx) (gIs "str")))) (fOrT (fNotT (fTest (fUn (fBin (fVar 0) (fC (.int 1)) gIx) (gIs "str")))) (fNotT (fTest (fUn (fBin (fVar 0) (fC (.int 2)) gIx) (gIs "tuple")))))) (fRet (fC (.bl false))) fNext)
    (fRet (fCB (fCons (fLC (fIt (fBin (fVar 0) (fC (.int 2)) gIx) gTupItems) (sName 0) (.ret true) (fCall 1 (fCons (fVar 0) fNil) m_whole) [none]) fNil) gAll))))
noncomputable def m_loop : List D → Ro := runP b_loop 1
theorem ok_loop {f : Addr} {fd : FuncData} (F : Fun K "_law_loop" "_law_loop" s_loop f fd) (T : Txt K mg) {C : Addr} (TB : BedTx K C) (F_whole : DefP P w K mg base 1 "_law_whole" 1 m_whole) : FnOk P w K mg base CX0 2 f fd ["found"] (spP K (fun _ => .none) 1 m_loop) :=
  fnP F sc_loop fun cdv A outer s H E hr =>
      (psd_cons (psd_if (ptd_bool (pwd_or (ptd_not (ptd_val (ped_isi T.b_isinstance T.b_tuple bo_tuple (ped_var 0)))) (pwd_or1 (ptd_cmp (cmp_ne hr.units) (ped_cb cb_len T.b_len bo_len (pad_cons (ped_var 0) pad_nil)) ped_int (nomark _))))) (psd_one (psd_ret ped_bl)) psd_nil)
      (psd_cons (psd_if (ptd_bool (pwd_or (ptd_not (ptd_val (ped_isi T.b_isinstance T.b_str bo_str (ped_ix (ped_var 0) ped_int)))) (pwd_or (ptd_not (ptd_val (ped_isi T.b_isinstance T.b_str bo_str (ped_ix (ped_var 0) ped_int)))) (pwd_or1 (ptd_not (ptd_val (ped_isi T.b_isinstance T.b_tuple bo_tuple (ped_ix (ped_var 0) ped_int)))))))) (psd_one (psd_ret ped_bl)) psd_nil)
      (psd_one (psd_ret (ped_cb (cb_all rfl) T.b_all bo_all (pad_cons (ped_lc (N := ["held"]) (sel := [none]) ⟨rfl, rfl, rfl, rfl, rfl, rfl⟩ rfl (pid_tup (ped_ix (ped_var 0) ped_int)) (fun _ => pgd_name nd_1) (fun _ => ptsd_nil) (fun _ => (ped_call F_whole (hr.mono (by decide)) (pad_cons (ped_var 0) pad_nil)))) pad_nil))))))
noncomputable abbrev s_alike_cloth : Stmt := top 18
theorem sc_alike_cloth : FnScope ["found", "due", "k"] ["found", "due"] (defScope s_alike_cloth) := ⟨rfl, rfl, rfl, by decide +kernel, rfl, by decide +kernel, by decide +kernel⟩
noncomputable def b_alike_cloth : DM Fl :=
    (fSeq (fIf (fOrT (fNotT (fTest (fUn (fVar 0) (gIs "list")))) (fTest (fBin (fCB (fCons (fVar 0) fNil) gLen) (fCB (fCons (fVar 1) fNil) gLen) gNe))) (fRet (fC (.bl false))) fNext)
    (fSeq (fFor (fRng1 (fCons (fCB (fCons (fVar 1) fNil) gLen) fNil)) (sName 2) (fIf (fOrT (fNotT (fTest (fCall 1 (fCons (fBin (fVar 0) (fVar 2) gIx) fNil) m_loop))) (fTest (fBin (fBin (fVar 0) (fVar 2) gIx) (fBin (fVar 1) (fVar 2) gIx) gNe))) (fRet (fC (.bl false))) fNext))
    (fRet (fC (.bl true)))))
noncomputable def m_alike_cloth : List D → Ro := runP b_alike_cloth 3
theorem ok_alike_cloth {f : Addr} {fd : FuncData} (F : Fun K "_law_alike_cloth" "_law_alike_cloth" s_alike_cloth f fd) (T : Txt K mg) {C : Addr} (TB : BedTx K C) (F_loop : DefP P w K mg base 2 "_law_loop" 1 m_loop) : FnOk P w K mg base CX0 3 f fd ["found", "due"] (spP K (fun _ => .none) 2 m_alike_cloth) :=
  fnP F sc_alike_cloth fun cdv A outer s H E hr =>
      (psd_cons (psd_if (ptd_bool (pwd_or (ptd_not (ptd_val (ped_isi T.b_isinstance T.b_list bo_list (ped_var 0)))) (pwd_or1 (ptd_cmp (cmp_ne hr.units) (ped_cb cb_len T.b_len bo_len (pad_cons (ped_var 0) pad_nil)) (ped_cb cb_len T.b_len bo_len (pad_cons (ped_var 1) pad_nil)) (nomark _))))) (psd_one (psd_ret ped_bl)) psd_nil)
      (psd_cons (psd_for PassesOwn.never rfl (pid_rng1 T.b_range (pad_cons (ped_cb cb_len T.b_len bo_len (pad_cons (ped_var 1) pad_nil)) pad_nil)) (pgd_name sc_alike_cloth.nd) (psd_one (psd_if (ptd_bool (pwd_or (ptd_not (ptd_val (ped_call F_loop (hr.mono (by decide)) (pad_cons (ped_ix (ped_var 0) (ped_var 2)) pad_nil)))) (pwd_or1 (ptd_cmp (cmp_ne hr.units) (ped_ix (ped_var 0) (ped_var 2)) (ped_ix (ped_var 1) (ped_var 2)) (nomark _))))) (psd_one (psd_ret ped_bl)) psd_nil)))
      (psd_one (psd_ret ped_bl))))
noncomputable abbrev s_Bed_done : Stmt := inClass (top 13) 5
theorem sc_Bed_done : FnScope ["self"] ["self"] (defScope s_Bed_done) := ⟨rfl, rfl, rfl, by decide +kernel, rfl, by decide +kernel, by decide +kernel⟩
noncomputable def b_Bed_done : DM Fl :=
    (fRet (fLC (fIt (fFld 0 2) gLstItems) (sName 0) (.ret true) (fBin (fVar 0) (fC (.int 0)) gIx) [none]))
noncomputable def m_Bed_done : List D → Ro := runP b_Bed_done 1
theorem ok_Bed_done {f : Addr} {fd : FuncData} (F : Fun K "done" "Bed.done" s_Bed_done f fd) (T : Txt K mg) {C : Addr} (TB : BedTx K C)  : FnOk P w K mg base CX0 1 f fd ["self"] (spP K (fun _ => .none) 1 m_Bed_done) :=
  fnP F sc_Bed_done fun cdv A outer s H E hr =>
      (psd_one (psd_ret (ped_lc (N := ["step"]) (sel := [none]) ⟨rfl, rfl, rfl, rfl, rfl, rfl⟩ rfl (pid_list (ped_past 0 TB)) (fun _ => pgd_name nd_2) (fun _ => ptsd_nil) (fun _ => (ped_ix (ped_var 0) ped_int)))))
noncomputable abbrev s_alike_hook : Stmt := top 19
theorem sc_alike_hook : FnScope ["found", "due", "k"] ["found", "due"] (defScope s_alike_hook) := ⟨rfl, rfl, rfl, by decide +kernel, rfl, by decide +kernel, by decide +kernel⟩
noncomputable def b_alike_hook : DM Fl :=
    (fSeq (fIf (fOrT (fNotT (fTest (fUn (fVar 0) (gIs "list")))) (fTest (fBin (fCB (fCons (fVar 0) fNil) gLen) (fCB (fCons (fVar 1) fNil) gLen) gNe))) (fRet (fC (.bl false))) fNext)
    (fSeq (fFor (fRng1 (fCons (fCB (fCons (fVar 1) fNil) gLen) fNil)) (sName 2) (fIf (fOrT (fNotT (fTest (fCall 1 (fCons (fBin (fVar 0) (fVar 2) gIx) fNil) m_whole))) (fTest (fBin (fBin (fVar 0) (fVar 2) gIx) (fBin (fVar 1) (fVar 2) gIx) gNe))) (fRet (fC (.bl false))) fNext))
    (fRet (fC (.bl true)))))
noncomputable def m_alike_hook : List D → Ro := runP b_alike_hook 3
theorem ok_alike_hook {f : Addr} {fd : FuncData} (F : Fun K "_law_alike_hook" "_law_alike_hook" s_alike_hook f fd) (T : Txt K mg) {C : Addr} (TB : BedTx K C) (F_whole : DefP P w K mg base 1 "_law_whole" 1 m_whole) : FnOk P w K mg base CX0 2 f fd ["found", "due"] (spP K (fun _ => .none) 2 m_alike_hook) :=
  fnP F sc_alike_hook fun cdv A outer s H E hr =>
      (psd_cons (psd_if (ptd_bool (pwd_or (ptd_not (ptd_val (ped_isi T.b_isinstance T.b_list bo_list (ped_var 0)))) (pwd_or1 (ptd_cmp (cmp_ne hr.units) (ped_cb cb_len T.b_len bo_len (pad_cons (ped_var 0) pad_nil)) (ped_cb cb_len T.b_len bo_len (pad_cons (ped_var 1) pad_nil)) (nomark _))))) (psd_one (psd_ret ped_bl)) psd_nil)
      (psd_cons (psd_for PassesOwn.never rfl (pid_rng1 T.b_range (pad_cons (ped_cb cb_len T.b_len bo_len (pad_cons (ped_var 1) pad_nil)) pad_nil)) (pgd_name sc_alike_hook.nd) (psd_one (psd_if (ptd_bool (pwd_or (ptd_not (ptd_val (ped_call F_whole (hr.mono (by decide)) (pad_cons (ped_ix (ped_var 0) (ped_var 2)) pad_nil)))) (pwd_or1 (ptd_cmp (cmp_ne hr.units) (ped_ix (ped_var 0) (ped_var 2)) (ped_ix (ped_var 1) (ped_var 2)) (nomark _))))) (psd_one (psd_ret ped_bl)) psd_nil)))
      (psd_one (psd_ret ped_bl))))
noncomputable abbrev s_Bed_cloth : Stmt := inClass (top 13) 4
theorem sc_Bed_cloth : FnScope ["self"] ["self"] (defScope s_Bed_cloth) := ⟨rfl, rfl, rfl, by decide +kernel, rfl, by decide +kernel, by decide +kernel⟩
noncomputable def b_Bed_cloth : DM Fl :=
    (fRet (fCB (fCons (fFld 0 1) fNil) gList))
noncomputable def m_Bed_cloth : List D → Ro := runP b_Bed_cloth 1
theorem ok_Bed_cloth {f : Addr} {fd : FuncData} (F : Fun K "cloth" "Bed.cloth" s_Bed_cloth f fd) (T : Txt K mg) {C : Addr} (TB : BedTx K C)  : FnOk P w K mg base CX0 1 f fd ["self"] (spP K (fun _ => .none) 1 m_Bed_cloth) :=
  fnP F sc_Bed_cloth fun cdv A outer s H E hr =>
      (psd_one (psd_ret (ped_cty cb_list T.b_list bo_list (pad_cons (ped_knitted 0 TB) pad_nil))))
noncomputable abbrev s_Bed_hook : Stmt := inClass (top 13) 3
theorem sc_Bed_hook : FnScope ["self", "row", "hook"] ["self", "row", "hook"] (defScope s_Bed_hook) := ⟨rfl, rfl, rfl, by decide +kernel, rfl, by decide +kernel, by decide +kernel⟩
noncomputable def b_Bed_hook : DM Fl :=
    (fRet (fCB (fCons (fCallR 0 2 (fCons (fKey (fCons (fVar 1) (fCons (fVar 2) fNil))) fNil) m_Bed_loops_at) fNil) gList))
noncomputable def m_Bed_hook : List D → Ro := runP b_Bed_hook 3
theorem ok_Bed_hook {f : Addr} {fd : FuncData} (F : Fun K "hook" "Bed.hook" s_Bed_hook f fd) (T : Txt K mg) {C : Addr} (TB : BedTx K C) (F_Bed_loops_at : MethP P w K mg base C 1 "loops_at" 2 m_Bed_loops_at) : FnOk P w K mg base CX0 2 f fd ["self", "row", "hook"] (spP K (fun _ => .none) 3 m_Bed_hook) :=
  fnP F sc_Bed_hook fun cdv A outer s H E hr =>
      (psd_one (psd_ret (ped_cty cb_list T.b_list bo_list (pad_cons (ped_methR 0 TB F_Bed_loops_at (hr.mono (by decide)) (pad_cons (ped_key (pad_cons (ped_var 1) (pad_cons (ped_var 2) pad_nil))) pad_nil)) pad_nil))))
noncomputable abbrev s_stands : Stmt := top 26
theorem sc_stands : FnScope ["bed", "hooks", "cloth", "deeds", "at"] ["bed", "hooks", "cloth", "deeds"] (defScope s_stands) := ⟨rfl, rfl, rfl, by decide +kernel, rfl, by decide +kernel, by decide +kernel⟩
noncomputable def b_stands : DM Fl :=
    (fSeq (fIf (fOrT (fNotT (fTest (fCall 2 (fCons (fCallR 0 1 fNil m_Bed_cloth) (fCons (fVar 2) fNil)) m_alike_cloth))) (fTest (fBin (fCallR 0 1 fNil m_Bed_done) (fVar 3) gNe))) (fRet (fC (.bl false))) fNext)
    (fSeq (fFor (fRng1 (fCons (fC (.int 16)) fNil)) (sName 4) (fSeq (fIf (fNotT (fTest (fCall 2 (fCons (fCallR 0 3 (fCons (fC (.str "f")) (fCons (fVar 4) fNil)) m_Bed_hook) (fCons (fBin (fVar 1) (fVar 4) gIx) fNil)) m_alike_hook))) (fRet (fC (.bl false))) fNext)
    (fIf (fNotT (fTest (fCall 2 (fCons (fCallR 0 3 (fCons (fC (.str "b")) (fCons (fVar 4) fNil)) m_Bed_hook) (fCons (fBin (fVar 1) (fBin (fC (.int 16)) (fVar 4) gAdd) gIx) fNil)) m_alike_hook))) (fRet (fC (.bl false))) fNext)))
    (fRet (fC (.bl true)))))
noncomputable def m_stands : List D → Ro := runP b_stands 5
theorem ok_stands {f : Addr} {fd : FuncData} (F : Fun K "_law_stands" "_law_stands" s_stands f fd) (T : Txt K mg) {C : Addr} (TB : BedTx K C) (F_alike_cloth : DefP P w K mg base 3 "_law_alike_cloth" 2 m_alike_cloth) (F_Bed_done : MethP P w K mg base C 1 "done" 1 m_Bed_done) (F_alike_hook : DefP P w K mg base 2 "_law_alike_hook" 2 m_alike_hook) (F_Bed_cloth : MethP P w K mg base C 1 "cloth" 1 m_Bed_cloth) (F_Bed_hook : MethP P w K mg base C 2 "hook" 3 m_Bed_hook) : FnOk P w K mg base CX0 4 f fd ["bed", "hooks", "cloth", "deeds"] (spP K (fun _ => .none) 4 m_stands) :=
  fnP F sc_stands fun cdv A outer s H E hr =>
      (psd_cons (psd_if (ptd_bool (pwd_or (ptd_not (ptd_val (ped_call F_alike_cloth (hr.mono (by decide)) (pad_cons (ped_methR0 0 TB F_Bed_cloth (hr.mono (by decide))) (pad_cons (ped_var 2) pad_nil))))) (pwd_or1 (ptd_cmp (cmp_ne hr.units) (ped_methR0 0 TB F_Bed_done (hr.mono (by decide))) (ped_var 3) (nomark _))))) (psd_one (psd_ret ped_bl)) psd_nil)
      (psd_cons (psd_for PassesOwn.never rfl (pid_rng1 T.b_range (pad_cons ped_int pad_nil)) (pgd_name sc_stands.nd) (psd_cons (psd_if (ptd_not (ptd_val (ped_call F_alike_hook (hr.mono (by decide)) (pad_cons (ped_methR 0 TB F_Bed_hook (hr.mono (by decide)) (pad_cons ped_str (pad_cons (ped_var 4) pad_nil))) (pad_cons (ped_ix (ped_var 1) (ped_var 4)) pad_nil))))) (psd_one (psd_ret ped_bl)) psd_nil)
      (psd_one (psd_if (ptd_not (ptd_val (ped_call F_alike_hook (hr.mono (by decide)) (pad_cons (ped_methR 0 TB F_Bed_hook (hr.mono (by decide)) (pad_cons ped_str (pad_cons (ped_var 4) pad_nil))) (pad_cons (ped_ix (ped_var 1) (ped_bin bin_add ped_int (ped_var 4))) pad_nil))))) (psd_one (psd_ret ped_bl)) psd_nil))))
      (psd_one (psd_ret ped_bl))))
noncomputable abbrev s_law : Stmt := top 27
theorem sc_law : FnScope ["script", "row", "other", "at", "to", "deeds", "bed", "hooks", "cloth", "deed", "last", "turn", "word", "found"] ["script"] (defScope s_law) := ⟨rfl, rfl, rfl, by decide +kernel, rfl, by decide +kernel, by decide +kernel⟩
noncomputable def b_law : DM Fl :=
    (fSeq (fSet 1 (fBin (fC (.str "fb")) (fBin (fCall 2 (fCons (fVar 0) (fCons (fC (.int 0)) fNil)) m_cell_at) (fC (.int 2)) gMod) gIx))
    (fSeq (fSet 2 (fBin (fC (.str "bf")) (fBin (fCall 2 (fCons (fVar 0) (fCons (fC (.int 0)) fNil)) m_cell_at) (fC (.int 2)) gMod) gIx))
    (fSeq (fSet 3 (fBin (fCall 2 (fCons (fVar 0) (fCons (fC (.int 1)) fNil)) m_cell_at) (fC (.int 16)) gMod))
    (fSeq (fSet 4 (fBin (fCall 2 (fCons (fVar 0) (fCons (fC (.int 2)) fNil)) m_cell_at) (fC (.int 16)) gMod))
    (fSeq (fIf (fTest (fBin (fBin (fBin (fCall 2 (fCons (fVar 0) (fCons (fC (.int 2)) fNil)) m_cell_at) (fC (.int 16)) gDiv) (fC (.int 3)) gMod) (fC (.int 0)) (gCmp gt))) (fSet 4 (fCB (fCons (fC (.int 0)) (fCons (fCB (fCons (fC (.int 15)) (fCons (fBin (fBin (fVar 3) (fBin (fBin (fCall 2 (fCons (fVar 0) (fCons (fC (.int 2)) fNil)) m_cell_at) (fC (.int 48)) gDiv) (fC (.int 7)) gMod) gAdd) (fC (.int 3)) gSub) fNil)) gMin) fNil)) gMax)) fNext)
    (fSeq (fSet 5 (fLC (fRng1 (fCons (fBin (fCall 2 (fCons (fVar 0) (fCons (fC (.int 3)) fNil)) m_cell_at) (fC (.int 5)) gMod) fNil)) (sName 0) (.ret true) (fTup (fCons (fC (.str "tuck")) (fCons (fVar 1) (fCons (fVar 2) (fCons (fC (.str "a")) fNil))))) [none, some 1, some 3]))
    (fSeq (fSet 5 (fBin (fVar 5) (fLC (fRng1 (fCons (fBin (fCall 2 (fCons (fVar 0) (fCons (fC (.int 4)) fNil)) m_cell_at) (fC (.int 5)) gMod) fNil)) (sName 0) (.ret true) (fTup (fCons (fC (.str "tuck")) (fCons (fVar 1) (fCons (fVar 2) (fCons (fC (.str "b")) fNil))))) [none, some 2, some 4]) gAdd))
    (fSeq (fBed 6)
    (fSeq (fSetO 7 (fLC (fRng1 (fCons (fC (.int 32)) fNil)) (sName 0) (.ret true) (fLst fNil) [none]))
    (fSeq (fSetO 8 (fLst fNil))
    (fSeq (fFor (fIt (fVar 5) gLstItems) (sName 9) (fSeq (fDrop (fCallW 6 2 (fCons (fVar 9) fNil) m_Bed_act))
    (fDrop (fCallN 3 [0, 1] (fCons (fVar 7) (fCons (fVar 8) (fCons (fVar 9) fNil))) m_do))))
    (fSeq (fSet 10 (fTup (fCons (fC (.str "move")) (fCons (fVar 1) (fCons (fVar 3) (fCons (fVar 4) fNil))))))
    (fSeq (fIf (fTest (fBin (fBin (fCall 2 (fCons (fVar 0) (fCons (fC (.int 5)) fNil)) m_cell_at) (fC (.int 4)) gMod) (fC (.int 1)) gEq)) (fSet 10 (fTup (fCons (fC (.str "knit")) (fCons (fVar 1) (fCons (fVar 3) (fCons (fC (.str "c")) fNil)))))) fNext)
    (fSeq (fIf (fTest (fBin (fBin (fCall 2 (fCons (fVar 0) (fCons (fC (.int 5)) fNil)) m_cell_at) (fC (.int 4)) gMod) (fC (.int 2)) gEq)) (fSet 10 (fTup (fCons (fC (.str "tuck")) (fCons (fVar 1) (fCons (fVar 3) (fCons (fC (.str "c")) fNil)))))) fNext)
    (fSeq (fFor (fRng1 (fCons (fC (.int 2)) fNil)) (sName 11) (fSeq (fSet 12 (fCallN 2 [0] (fCons (fVar 7) (fCons (fVar 10) fNil)) m_word))
    (fSeq (fSet 13 (fCallW 6 2 (fCons (fVar 10) fNil) m_act))
    (fSeq (fIf (fTest (fBin (fVar 12) (fC .non) gIsN)) (fSeq (fIf (fTest (fBin (fBin (fVar 13) (fC (.int 0)) gIx) (fC (.str "done")) gNe)) (fRet (fC (.bl false))) fNext)
    (fSeq (fDrop (fCallN 3 [0, 1] (fCons (fVar 7) (fCons (fVar 8) (fCons (fVar 10) fNil))) m_do))
    (fSet 5 (fBin (fVar 5) (fLst (fCons (fVar 10) fNil)) gAdd)))) (fIf (fOrT (fTest (fBin (fBin (fVar 13) (fC (.int 0)) gIx) (fVar 12) gNe)) (fTest (fBin (fBin (fVar 13) (fC (.int 1)) gIx) (fC (.bl true)) gIsNotB))) (fRet (fC (.bl false))) fNext))
    (fIf (fNotT (fTest (fLend (fCall 4 (fCons (fVar 6) (fCons (fVar 7) (fCons (fVar 8) (fCons (fVar 5) fNil)))) m_stands)))) (fRet (fC (.bl false))) fNext)))))
    (fRet (fC (.bl true))))))))))))))))))
noncomputable def m_law : List D → Ro := runP b_law 14
theorem ok_law {f : Addr} {fd : FuncData} (F : Fun K "law" "law" s_law f fd) (T : Txt K mg) {C : Addr} (TB : BedTx K C) (F_Bed : MkB P w K mg base C) (F_cell_at : DefP P w K mg base 1 "_law_cell_at" 2 m_cell_at) (F_Bed_act : MethX P w K mg base C 4 "act" 2 m_Bed_act) (F_do : DefN P w K mg base 2 "_law_do" 3 [0, 1] m_do) (F_word : DefN P w K mg base 2 "_law_word" 2 [0] m_word) (F_act : DefW P w K mg base 5 "_law_act" 2 m_act) (F_stands : DefP P w K mg base 4 "_law_stands" 4 m_stands) : FnOk P w K mg base CX0 6 f fd ["script"] (spP K (fun _ => .none) 1 m_law) :=
  fnP F sc_law fun cdv A outer s H E hr =>
      (psd_cons (psd_set 1 sc_law.nd (ped_ix ped_str (ped_bin bin_mod (ped_call F_cell_at (hr.mono (by decide)) (pad_cons (ped_var 0) (pad_cons ped_int pad_nil))) ped_int)))
      (psd_cons (psd_set 2 sc_law.nd (ped_ix ped_str (ped_bin bin_mod (ped_call F_cell_at (hr.mono (by decide)) (pad_cons (ped_var 0) (pad_cons ped_int pad_nil))) ped_int)))
      (psd_cons (psd_set 3 sc_law.nd (ped_bin bin_mod (ped_call F_cell_at (hr.mono (by decide)) (pad_cons (ped_var 0) (pad_cons ped_int pad_nil))) ped_int))
      (psd_cons (psd_set 4 sc_law.nd (ped_bin bin_mod (ped_call F_cell_at (hr.mono (by decide)) (pad_cons (ped_var 0) (pad_cons ped_int pad_nil))) ped_int))
      (psd_cons (psd_if (ptd_cmp cmp_gt (ped_bin bin_mod (ped_bin bin_div (ped_call F_cell_at (hr.mono (by decide)) (pad_cons (ped_var 0) (pad_cons ped_int pad_nil))) ped_int) ped_int) ped_int (nomark _)) (psd_one (psd_set 4 sc_law.nd (ped_cb (cb_max rfl) T.b_max bo_max (pad_cons ped_int (pad_cons (ped_cb (cb_min rfl) T.b_min bo_min (pad_cons ped_int (pad_cons (ped_bin bin_sub (ped_bin bin_add (ped_var 3) (ped_bin bin_mod (ped_bin bin_div (ped_call F_cell_at (hr.mono (by decide)) (pad_cons (ped_var 0) (pad_cons ped_int pad_nil))) ped_int) ped_int)) ped_int) pad_nil))) pad_nil))))) psd_nil)
      (psd_cons (psd_lc 5 sc_law.nd (N := ["k", "row", "at"]) (sel := [none, some 1, some 3]) ⟨rfl, rfl, rfl, rfl, rfl, rfl⟩ rfl (pid_rng1 T.b_range (pad_cons (ped_bin bin_mod (ped_call F_cell_at (hr.mono (by decide)) (pad_cons (ped_var 0) (pad_cons ped_int pad_nil))) ped_int) pad_nil)) (fun _ => pgd_name nd_5) (fun _ => ptsd_nil) (fun _ => (ped_tup (pad_cons ped_str (pad_cons (ped_var 1) (pad_cons (ped_var 2) (pad_cons ped_str pad_nil)))))))
      (psd_cons (psd_set 5 sc_law.nd (ped_bin bin_add (ped_var 5) (ped_lc (N := ["k", "other", "to"]) (sel := [none, some 2, some 4]) ⟨rfl, rfl, rfl, rfl, rfl, rfl⟩ rfl (pid_rng1 T.b_range (pad_cons (ped_bin bin_mod (ped_call F_cell_at (hr.mono (by decide)) (pad_cons (ped_var 0) (pad_cons ped_int pad_nil))) ped_int) pad_nil)) (fun _ => pgd_name nd_4) (fun _ => ptsd_nil) (fun _ => (ped_tup (pad_cons ped_str (pad_cons (ped_var 1) (pad_cons (ped_var 2) (pad_cons ped_str pad_nil)))))))))
      (psd_cons (psd_bed 6 sc_law.nd TB F_Bed (hr.mono (by decide)))
      (psd_cons (psd_lcO 7 sc_law.nd (N := ["k"]) (sel := [none]) ⟨rfl, rfl, rfl, rfl, rfl, rfl⟩ rfl (pid_rng1 T.b_range (pad_cons ped_int pad_nil)) (fun _ => pgd_name nd_3) (fun _ => ptsd_nil) (fun _ => (ped_lst pad_nil)))
      (psd_cons (psd_setO 8 sc_law.nd (ped_lst pad_nil))
      (psd_cons (psd_for PassesOwn.never rfl (pid_list (ped_var 5)) (pgd_name sc_law.nd) (psd_cons (psd_expr (ped_methZ 6 TB F_Bed_act (hr.mono (by decide)) (pad_cons (ped_var 9) pad_nil)))
      (psd_one (psd_expr (ped_callN F_do (hr.mono (by decide)) (pad_cons (ped_var 7) (pad_cons (ped_var 8) (pad_cons (ped_var 9) pad_nil))))))))
      (psd_cons (psd_set 10 sc_law.nd (ped_tup (pad_cons ped_str (pad_cons (ped_var 1) (pad_cons (ped_var 3) (pad_cons (ped_var 4) pad_nil))))))
      (psd_cons (psd_if (ptd_cmp (cmp_eq hr.units) (ped_bin bin_mod (ped_call F_cell_at (hr.mono (by decide)) (pad_cons (ped_var 0) (pad_cons ped_int pad_nil))) ped_int) ped_int (nomark _)) (psd_one (psd_set 10 sc_law.nd (ped_tup (pad_cons ped_str (pad_cons (ped_var 1) (pad_cons (ped_var 3) (pad_cons ped_str pad_nil))))))) psd_nil)
      (psd_cons (psd_if (ptd_cmp (cmp_eq hr.units) (ped_bin bin_mod (ped_call F_cell_at (hr.mono (by decide)) (pad_cons (ped_var 0) (pad_cons ped_int pad_nil))) ped_int) ped_int (nomark _)) (psd_one (psd_set 10 sc_law.nd (ped_tup (pad_cons ped_str (pad_cons (ped_var 1) (pad_cons (ped_var 3) (pad_cons ped_str pad_nil))))))) psd_nil)
      (psd_cons (psd_for PassesOwn.never rfl (pid_rng1 T.b_range (pad_cons ped_int pad_nil)) (pgd_name sc_law.nd) (psd_cons (psd_set 12 sc_law.nd (ped_callN F_word (hr.mono (by decide)) (pad_cons (ped_var 7) (pad_cons (ped_var 10) pad_nil))))
      (psd_cons (psd_set 13 sc_law.nd (ped_funW 6 F_act (hr.mono (by decide)) (pad_cons (ped_var 10) pad_nil)))
      (psd_cons (psd_if (ptd_cmp cmp_is (ped_var 12) ped_non (nomark _)) (psd_cons (psd_if (ptd_cmp (cmp_ne hr.units) (ped_ix (ped_var 13) ped_int) ped_str (nomark _)) (psd_one (psd_ret ped_bl)) psd_nil)
      (psd_cons (psd_expr (ped_callN F_do (hr.mono (by decide)) (pad_cons (ped_var 7) (pad_cons (ped_var 8) (pad_cons (ped_var 10) pad_nil)))))
      (psd_one (psd_set 5 sc_law.nd (ped_bin bin_add (ped_var 5) (ped_lst (pad_cons (ped_var 10) pad_nil))))))) (psd_one (psd_if (ptd_bool (pwd_or (ptd_cmp (cmp_ne hr.units) (ped_ix (ped_var 13) ped_int) (ped_var 12) (nomark _)) (pwd_or1 (ptd_cmp cmp_isnotB (ped_ix (ped_var 13) ped_int) ped_bl (nomark _))))) (psd_one (psd_ret ped_bl)) psd_nil)))
      (psd_one (psd_if (ptd_not (ptd_val (ped_lend (ped_call F_stands (hr.mono (by decide)) (pad_cons (ped_var 6) (pad_cons (ped_var 7) (pad_cons (ped_var 8) (pad_cons (ped_var 5) pad_nil)))))))) (psd_one (psd_ret ped_bl)) psd_nil))))))
      (psd_one (psd_ret ped_bl)))))))))))))))))
end
end Lw
local macro_rules | `(tactic| walk_at "ev1") => `(tactic| first
  | with_reducible exact DL.ev_c | with_reducible exact DL.ev_nil | with_reducible exact DL.ev_next | with_reducible exact DL.ev_nopart
  | ((with_reducible apply DL.ev_var); rfl) | ((with_reducible apply DL.ev_slot); rfl)
  | ((with_reducible change DL.res _ _ = _); rfl) | ((with_reducible change DL.norm _ = _); rfl) | ((with_reducible change DL.valsOf _ = _); rfl) | ((with_reducible change DL.resAll _ _ = _); rfl)
  | with_reducible assumption
  | ((with_reducible change DL.loopD _ _ _ _ = _); assumption) | ((with_reducible change DL.whileD _ _ _ _ = _); assumption) | ((with_reducible change DL.compD _ _ _ _ _ _ = _); assumption)
  | with_reducible apply DL.ev_bin | with_reducible apply DL.ev_cons | with_reducible apply DL.ev_un | with_reducible apply DL.ev_cb
  | with_reducible apply DL.ev_seqK | with_reducible apply DL.seqK_nx | with_reducible exact DL.seqK_rt | with_reducible exact DL.seqK_rto | with_reducible apply DL.ev_set | with_reducible apply DL.ev_setO | with_reducible apply DL.ev_tup | with_reducible apply DL.ev_lst
  | with_reducible apply DL.ev_test | with_reducible apply DL.ev_lc | with_reducible apply DL.ev_rng1 | with_reducible apply DL.ev_rng2 | with_reducible apply DL.ev_it | with_reducible apply DL.ev_enum | ((with_reducible apply DL.ev_rev); rfl) | ((with_reducible apply DL.ev_extend); rfl) | with_reducible apply DL.ev_for
  | with_reducible apply DL.ev_if | with_reducible apply DL.ev_and | with_reducible apply DL.ev_or | with_reducible apply DL.ev_ifE | with_reducible apply DL.ev_andTg | with_reducible apply DL.ev_orTg
  | ((with_reducible apply DL.ev_iteT); first | with_reducible assumption | decide | with_unfolding_all rfl) | ((with_reducible apply DL.ev_iteF); first | with_reducible assumption | decide | with_unfolding_all rfl)
  | with_reducible apply DL.ev_bm | with_reducible apply DL.ev_slice | with_reducible apply DL.ev_part | with_reducible apply DL.ev_not | with_reducible apply DL.ev_notT
  | ((with_reducible apply DL.ev_app); rfl)
  | with_reducible apply DL.ev_run | with_reducible apply DL.ev_runO | with_reducible apply DL.ev_runX | with_reducible apply DL.ev_runXO | with_reducible apply DL.ev_retK | with_reducible exact DL.retK_val | with_reducible exact DL.retK_own | ((with_reducible apply DL.retK_slot); rfl) | ((with_reducible change DL.valsY _ _ _ = _); rfl) | with_reducible exact DL.rnRs_ok | with_reducible exact DL.rnRs_own | with_reducible exact DL.roRs_ok | with_reducible exact DL.roRs_own
  | with_reducible apply DL.og_addS | with_reducible apply DL.og_addL | with_reducible exact DL.og_addI | with_reducible apply DL.og_mul | with_reducible apply DL.og_div | with_reducible apply DL.og_mod
  | with_reducible exact DL.og_ixL0 | with_reducible apply DL.og_join | with_reducible apply DL.og_lenS | with_reducible exact DL.og_slL | with_reducible apply DL.og_strI | with_reducible apply DL.og_eq | with_reducible apply DL.og_ne
  | with_reducible apply DL.ev_callG | with_reducible apply DL.ev_callN
  | ((with_reducible change DL.gIs _ _ = _); first | with_reducible exact DL.gis_int_non | with_reducible exact DL.gis_int_bl | with_reducible exact DL.gis_int_int | with_reducible exact DL.gis_int_str | with_reducible exact DL.gis_int_tup | with_reducible exact DL.gis_int_lst | with_reducible exact DL.gis_bool_non | with_reducible exact DL.gis_bool_bl | with_reducible exact DL.gis_bool_int | with_reducible exact DL.gis_bool_str | with_reducible exact DL.gis_bool_tup | with_reducible exact DL.gis_bool_lst | with_reducible exact DL.gis_str_non | with_reducible exact DL.gis_str_bl | with_reducible exact DL.gis_str_int | with_reducible exact DL.gis_str_str | with_reducible exact DL.gis_str_tup | with_reducible exact DL.gis_str_lst | with_reducible exact DL.gis_list_non | with_reducible exact DL.gis_list_bl | with_reducible exact DL.gis_list_int | with_reducible exact DL.gis_list_str | with_reducible exact DL.gis_list_tup | with_reducible exact DL.gis_list_lst | with_reducible exact DL.gis_tuple_non | with_reducible exact DL.gis_tuple_bl | with_reducible exact DL.gis_tuple_int | with_reducible exact DL.gis_tuple_str | with_reducible exact DL.gis_tuple_tup | with_reducible exact DL.gis_tuple_lst)
  | rfl
  | ((with_reducible apply DL.og_cmulL) <;> omega) | ((with_reducible apply DL.og_cmulR) <;> omega) | ((with_reducible apply DL.og_small) <;> omega)
  | exact Nat.le_of_ble_eq_true rfl
  | (unfold PySem.sizeLine; omega)
  | assumption)
local macro_rules | `(tactic| walk_at "ev") => `(tactic| repeat walk_at "ev1")
namespace Lw
open PySem L2 DL
noncomputable def cellv (ns : List Int) (k : Int) : Int := if k < ns.length then ns.getD k.toNat 0 else 0
theorem m_cell (ns : List Int) (k : Int) (hk : 0 ≤ k) : m_cell_at [.scr ns, .int k] = .ok (.int (cellv ns k)) := by
  unfold m_cell_at b_cell_at cellv
  by_cases h : k < ns.length
  · have e : gIx (.scr ns) (.int k) = some (.val (.int (ns.getD k.toNat 0))) := by
      show (atI ns k).map _ = _
      unfold atI ixN
      rw [if_pos hk, if_pos h]
      have : k.toNat < ns.length := by omega
      show (ns[k.toNat]?).map _ = _
      rw [List.getD_eq_getElem?_getD, List.getElem?_eq_getElem this]; rfl
    rw [if_pos h]
    have hb : lt k ns.length = true := decide_eq_true h
    walk_at "ev"
  · rw [if_neg h]
    have hb : lt k ns.length = false := decide_eq_false h
    walk_at "ev"
end Lw
namespace Lw
open PySem L2 DL
noncomputable def yarns : List Str := ["a", "b", "c", "d", "e", "f"]
theorem ev_andB {c c1 : DM Bool} {δ : DSt} {b b1 : Bool} (h : c δ = .ok b δ) (h1 : c1 δ = .ok b1 δ) : fAndT c c1 δ = .ok (b && b1) δ := by
  unfold fAndT DM.bd; simp only [h]; cases b <;> simp [h1, DM.ret]
theorem ev_orB {c c1 : DM Bool} {δ : DSt} {b b1 : Bool} (h : c δ = .ok b δ) (h1 : c1 δ = .ok b1 δ) : fOrT c c1 δ = .ok (b || b1) δ := by
  unfold fOrT DM.bd; simp only [h]; cases b <;> simp [h1, DM.ret]
end Lw
namespace Lw
open PySem L2 DL
noncomputable def iD (cs : List Int) : List D := cs.map D.int
theorem iD_len (cs : List Int) : (iD cs).length = cs.length := List.length_map _
theorem ix_iD {cs : List Int} {i : Int} {c : Int} (h0 : 0 ≤ i) (h : cs[i.toNat]? = some c) : gIx (.lst (iD cs)) (.int i) = some (.val (.int c)) :=
  og_ixL (atI_of h0 (by unfold iD; rw [List.getElem?_map, h]; rfl))
theorem len_iD (cs : List Int) : gLen [.lst (iD cs)] = some (.val (.int (cs.length : Int))) := by
  show some (DV.val (.int _)) = _
  rw [iD_len]
noncomputable abbrev ch (c : Nat) : Str := ⟨#[c]⟩
noncomputable abbrev Lp := Str × Str × List Int
noncomputable def lpD (l : Lp) : D := .tup [.str l.1, .str l.2.1, .tup (iD l.2.2)]
noncomputable def clD (cl : List Lp) : List D := cl.map lpD
noncomputable def lvD (lv : List (List Int)) : List D := lv.map fun l => .lst (iD l)
theorem clD_len (cl : List Lp) : (clD cl).length = cl.length := List.length_map _
theorem lvD_len (lv : List (List Int)) : (lvD lv).length = lv.length := List.length_map _
theorem iD_app (a b : List Int) : iD (a ++ b) = iD a ++ iD b := List.map_append
theorem clD_app (a b : List Lp) : clD (a ++ b) = clD a ++ clD b := List.map_append
theorem k_is : Str.ofString "k" = ch 107 := by decide +kernel
theorem lv_ix {lv : List (List Int)} {i : Int} {l : List Int} (h0 : 0 ≤ i) (h : lv[i.toNat]? = some l) : gIx (.lst (lvD lv)) (.int i) = some (.val (.lst (iD l))) :=
  og_ixL (atI_of h0 (by unfold lvD; rw [List.getElem?_map, h]; rfl))
theorem lvD_set (pl : List (List Int)) (i : Nat) (l : List Int) : lvD (pl.set i l) = (lvD pl).set i (.lst (iD l)) := by
  unfold lvD; rw [List.map_set]
end Lw
namespace Lw
open PySem L2 DL
theorem whole_int (i : Int) : m_whole [.int i] = .ok (.bl true) := by
  unfold m_whole b_whole
  walk_at "ev"
theorem bls_true : ∀ (ds : List D), blsOf (ds.map fun _ => D.bl true) = some (ds.map fun _ => true)
  | [] => rfl
  | d :: ds => by
    show (blsOf (ds.map fun _ => D.bl true)).map _ = _
    rw [bls_true ds]; rfl
theorem all_true (ds : List D) : gAll [.lst (ds.map fun _ => D.bl true)] = some (.val (.bl true)) := by
  show (blsOf _).map _ = _
  rw [bls_true]
  show some (DV.val (.bl (List.all _ id))) = _
  rw [List.all_map, (List.all_eq_true.mpr fun _ _ => rfl : List.all ds (id ∘ fun _ => true) = true)]
theorem whole_comp (us : List Int) (hl : us.length ≤ 1000) : compD (sName 0) (.ret true) (fCall 1 (fCons (fVar 0) fNil) m_whole) (iD us) [.no] [] = some ((iD us).map fun _ => D.bl true) := by
  rw [comp_map (g := fun _ => .bl true) _ .no (by rw [iD_len]; unfold sizeLine; omega) ?_]
  intro d hd
  obtain ⟨c, hc', rfl⟩ := List.mem_map.mp hd
  have h1 := whole_int c
  have h3 : (fCall 1 (fCons (fVar 0) fNil) m_whole) [.sh (.int c)] = .ok (.val (.bl true)) [.sh (.int c)] := by walk_at "ev"
  unfold fN DM.bd
  rw [h3]
  rfl
theorem iD_all (n : Nat) (us : List Int) : (iD us).all (okD (n + 1)) = true := by
  unfold iD
  rw [List.all_map]
  exact List.all_eq_true.mpr fun _ _ => rfl
theorem lp_self (l : Lp) : deqF 8 (lpD l) (lpD l) = some true := by
  refine deq_self 8 _ ?_
  show (okD 7 (.str l.1) && (okD 7 (.str l.2.1) && ((iD l.2.2).all (okD 6) && true))) = true
  rw [iD_all]; rfl
theorem loop_ok (l : Lp) (hl : l.2.2.length ≤ 1000) : m_loop [lpD l] = .ok (.bl true) := by
  have g1 : gLen [lpD l] = some (.val (.int 3)) := rfl
  have g2 : gNe (.int 3) (.int 3) = some (.val (.bl false)) := og_ne (deq_self 8 _ rfl)
  have g3 : gIx (lpD l) (.int 0) = some (.val (.str l.1)) := rfl
  have g4 : gIx (lpD l) (.int 1) = some (.val (.str l.2.1)) := rfl
  have g5 : gIx (lpD l) (.int 2) = some (.val (.tup (iD l.2.2))) := rfl
  have g6 : gTupItems (.tup (iD l.2.2)) = some (iD l.2.2) := rfl
  have g7 := whole_comp l.2.2 hl
  have g8 := all_true (iD l.2.2)
  have g9 : gIs "tuple" (lpD l) = some (.val (.bl true)) := gis_tuple_tup
  unfold m_loop b_loop
  walk_at "ev"
noncomputable def bAC : DM Fl := (fIf (fOrT (fNotT (fTest (fCall 1 (fCons (fBin (fVar 0) (fVar 2) gIx) fNil) m_loop))) (fTest (fBin (fBin (fVar 0) (fVar 2) gIx) (fBin (fVar 1) (fVar 2) gIx) gNe))) (fRet (fC (.bl false))) fNext)
theorem ac_loop (cl : List Lp) (hl : ∀ l ∈ cl, l.2.2.length ≤ 1000) : ∀ (ks : List D) (b2 : Sl), (∀ d ∈ ks, ∃ k : Nat, k < cl.length ∧ d = .int (k : Int)) → ∃ x2,
    loopD (sName 2) bAC ks [.sh (.lst (clD cl)), .sh (.lst (clD cl)), b2] = .ok .nx [.sh (.lst (clD cl)), .sh (.lst (clD cl)), x2]
  | [], b2, _ => ⟨b2, rfl⟩
  | d :: ks, b2, h => by
    obtain ⟨k, hk, rfl⟩ := h d List.mem_cons_self
    obtain ⟨x2, e⟩ := ac_loop cl hl ks (.sh (.int (k : Int))) fun d hd => h d (List.mem_cons_of_mem _ hd)
    refine ⟨x2, loop_nx rfl ?_ e⟩
    have g1 : gIx (.lst (clD cl)) (.int (k : Int)) = some (.val (lpD cl[k])) := og_ixL (atI_of (by omega) (by
      unfold clD
      rw [List.getElem?_map, show (k : Int).toNat = k by omega, List.getElem?_eq_getElem hk]; rfl))
    have g2 := loop_ok cl[k] (hl _ (List.getElem_mem hk))
    have g3 : gNe (lpD cl[k]) (lpD cl[k]) = some (.val (.bl false)) := og_ne (lp_self _)
    unfold bAC
    walk_at "ev"
theorem alike_cloth_ok (cl : List Lp) (hc : cl.length ≤ 1000) (hl : ∀ l ∈ cl, l.2.2.length ≤ 1000) : m_alike_cloth [.lst (clD cl), .lst (clD cl)] = .ok (.bl true) := by
  have g1 : gLen [.lst (clD cl)] = some (.val (.int (cl.length : Int))) := by
    show some (DV.val (.int _)) = _
    rw [clD_len]
  have g2 : gNe (.int (cl.length : Int)) (.int (cl.length : Int)) = some (.val (.bl false)) := og_ne (deq_self 8 _ rfl)
  have g3 : small62 (cl.length : Int) = true := og_small (by omega) (by omega)
  obtain ⟨x2, e⟩ := ac_loop cl hl (rangeD 0 (cl.length : Int).toNat) .no fun d hd => by
    obtain ⟨k, hk, q⟩ := range0_mem hd
    exact ⟨k, by omega, q⟩
  unfold bAC at e
  unfold m_alike_cloth b_alike_cloth
  walk_at "ev"
end Lw
namespace Lw
open PySem L2 DL
noncomputable def bAH : DM Fl := (fIf (fOrT (fNotT (fTest (fCall 1 (fCons (fBin (fVar 0) (fVar 2) gIx) fNil) m_whole))) (fTest (fBin (fBin (fVar 0) (fVar 2) gIx) (fBin (fVar 1) (fVar 2) gIx) gNe))) (fRet (fC (.bl false))) fNext)
theorem ah_loop (us : List Int) : ∀ (ks : List D) (b2 : Sl), (∀ d ∈ ks, ∃ k : Nat, k < us.length ∧ d = .int (k : Int)) → ∃ x2,
    loopD (sName 2) bAH ks [.sh (.lst (iD us)), .sh (.lst (iD us)), b2] = .ok .nx [.sh (.lst (iD us)), .sh (.lst (iD us)), x2]
  | [], b2, _ => ⟨b2, rfl⟩
  | d :: ks, b2, h => by
    obtain ⟨k, hk, rfl⟩ := h d List.mem_cons_self
    obtain ⟨x2, e⟩ := ah_loop us ks (.sh (.int (k : Int))) fun d hd => h d (List.mem_cons_of_mem _ hd)
    refine ⟨x2, loop_nx rfl ?_ e⟩
    have g1 : gIx (.lst (iD us)) (.int (k : Int)) = some (.val (.int us[k])) := ix_iD (by omega) (by rw [show (k : Int).toNat = k by omega, List.getElem?_eq_getElem hk])
    have g2 := whole_int us[k]
    have g3 : gNe (.int us[k]) (.int us[k]) = some (.val (.bl false)) := og_ne (deq_self 8 _ rfl)
    unfold bAH
    walk_at "ev"
theorem alike_hook_ok (us : List Int) (hc : us.length ≤ 1000) : m_alike_hook [.lst (iD us), .lst (iD us)] = .ok (.bl true) := by
  have g1 := len_iD us
  have g2 : gNe (.int (us.length : Int)) (.int (us.length : Int)) = some (.val (.bl false)) := og_ne (deq_self 8 _ rfl)
  have g3 : small62 (us.length : Int) = true := og_small (by omega) (by omega)
  obtain ⟨x2, e⟩ := ah_loop us (rangeD 0 (us.length : Int).toNat) .no fun d hd => by
    obtain ⟨k, hk, q⟩ := range0_mem hd
    exact ⟨k, by omega, q⟩
  unfold bAH at e
  unfold m_alike_hook b_alike_hook
  walk_at "ev"
end Lw
namespace Lw
open PySem L2 DL
inductive Dd where
  | ky (k r : Str) (a : Int) (y : Str)
  | mv (r : Str) (a t : Int)
noncomputable def Dd.D : Dd → D
  | .ky k r a y => .tup [.str k, .str r, .int a, .str y]
  | .mv r a t => .tup [.str "move", .str r, .int a, .int t]
noncomputable def Dd.at : Dd → Int
  | .ky _ _ a _ => a
  | .mv _ a _ => a
noncomputable def RowOk (r : Str) : Prop := r = Str.ofString "f" ∨ r = Str.ofString "b"
noncomputable def Dd.ok : Dd → Prop
  | .ky k r a y => (k = Str.ofString "knit" ∨ k = Str.ofString "tuck") ∧ RowOk r ∧ 0 ≤ a ∧ a ≤ 15 ∧ y ∈ yarns
  | .mv r a t => RowOk r ∧ 0 ≤ a ∧ a ≤ 15 ∧ 0 ≤ t ∧ t ≤ 15
theorem into_row (t : Int) : 0 ≤ imax 0 (imin 15 t) ∧ imax 0 (imin 15 t) ≤ 15 := by
  unfold imax imin
  split <;> split <;> omega
theorem eq_move {k : Str} (h : k = Str.ofString "knit" ∨ k = Str.ofString "tuck") : gEq (.str k) (.str (Str.ofString "move")) = some (.val (.bl false)) := by
  rcases h with rfl | rfl
  · exact og_eq (by decide +kernel)
  · exact og_eq (by decide +kernel)
theorem eq_move' : gEq (.str (Str.ofString "move")) (.str (Str.ofString "move")) = some (.val (.bl true)) := og_eq (deq_self 8 _ rfl)
end Lw
namespace Lw
open PySem L2 DL
theorem eq_f {r : Str} (h : RowOk r) : gEq (.str r) (.str (Str.ofString "f")) = some (.val (.bl (decide (r = Str.ofString "f")))) := by
  rcases h with rfl | rfl
  · rw [decide_eq_true rfl]; exact og_eq (by decide +kernel)
  · rw [decide_eq_false (by decide +kernel)]; exact og_eq (by decide +kernel)
theorem eq_b {r : Str} (h : RowOk r) : gEq (.str r) (.str (Str.ofString "b")) = some (.val (.bl (!decide (r = Str.ofString "f")))) := by
  rcases h with rfl | rfl
  · rw [decide_eq_true rfl]; exact og_eq (b := false) (by decide +kernel)
  · rw [decide_eq_false (by decide +kernel)]; exact og_eq (b := true) (by decide +kernel)
noncomputable def hk (r : Str) (a : Int) : Int := if r = Str.ofString "f" then a else 16 + a
noncomputable def other (r : Str) : Str := if r = Str.ofString "f" then Str.ofString "b" else Str.ofString "f"
theorem other_ok (r : Str) : RowOk (other r) := by
  unfold other
  split
  · exact .inr rfl
  · exact .inl rfl
theorem hk_lt {r : Str} {a : Int} (h0 : 0 ≤ a) (h1 : a ≤ 15) : 0 ≤ hk r a ∧ hk r a < 32 := by
  unfold hk
  split <;> omega
theorem at_ok {r : Str} (h : RowOk r) (a : Int) : m_at [.str r, .int a] = .ok (.int (hk r a)) := by
  have e := eq_f h
  unfold m_at b_at hk
  by_cases hr : r = Str.ofString "f"
  · have d : decide (r = Str.ofString "f") = true := decide_eq_true hr
    rw [if_pos hr]
    walk_at "ev"
  · have d : decide (r = Str.ofString "f") = false := decide_eq_false hr
    rw [if_neg hr]
    walk_at "ev"
theorem hook_ok {r : Str} (h : RowOk r) {a : Int} (h0 : 0 ≤ a) (h1 : a ≤ 15) {hs : List (List Int)} {l : List Int} (hl : hs[(hk r a).toNat]? = some l) : m_hook [.non, .str r, .int a] [lvD hs] = .ok (.lst (iD l)) [lvD hs] := by
  have e := eq_f h
  have g := lv_ix (hk_lt (r := r) h0 h1).1 hl
  unfold m_hook b_hook
  unfold hk at g
  by_cases hr : r = Str.ofString "f"
  · have d : decide (r = Str.ofString "f") = true := decide_eq_true hr
    rw [if_pos hr] at g
    apply ev_runNrt
    · walk_at "ev"
    · rfl
  · have d : decide (r = Str.ofString "f") = false := decide_eq_false hr
    rw [if_neg hr] at g
    apply ev_runNrt
    · walk_at "ev"
    · rfl
end Lw
namespace Lw
open PySem L2 DL
noncomputable def hAt (hs : List (List Int)) (i : Int) : List Int := hs.getD i.toNat []
theorem hAt_is {hs : List (List Int)} {i : Int} (h : i.toNat < hs.length) : hs[i.toNat]? = some (hAt hs i) := by
  unfold hAt
  rw [List.getD_eq_getElem?_getD, List.getElem?_eq_getElem h]; rfl
noncomputable def wordF (hs : List (List Int)) : Dd → Option Str
  | .ky k r a _ => if k = Str.ofString "knit" ∧ hAt hs (hk r a) = [] then some (Str.ofString "empty") else if k = Str.ofString "tuck" ∧ (hAt hs (hk r a)).length = 4 then some (Str.ofString "full") else none
  | .mv r a t => if a - t > 2 ∨ t - a > 2 then some (Str.ofString "far") else if hAt hs (hk r a) = [] then some (Str.ofString "empty") else if (hAt hs (hk r a)).length + (hAt hs (hk (other r) t)).length > 4 then some (Str.ofString "full") else none
noncomputable def wordD : Option Str → D
  | none => .non
  | some s => .str s
theorem eq_nil (l : List Int) : gEq (.lst (iD l)) (.lst []) = some (.val (.bl (decide (l = [])))) := by
  cases l with
  | nil => exact og_eq rfl
  | cons a q => rw [decide_eq_false (by intro z; cases z)]; exact og_eq rfl
theorem word_mv (hs : List (List Int)) (h32 : hs.length = 32) (r : Str) (a t : Int) (hd : (Dd.mv r a t).ok) : m_word [.non, (Dd.mv r a t).D] [lvD hs] = .ok (wordD (wordF hs (.mv r a t))) [lvD hs] := by
  obtain ⟨hr, ha0, ha1, ht0, ht1⟩ := hd
  have b1 := hk_lt (r := r) ha0 ha1
  have b2 := hk_lt (r := other r) ht0 ht1
  have k1 := hook_ok hr ha0 ha1 (hAt_is (hs := hs) (i := hk r a) (by omega))
  have k2 := hook_ok (other_ok r) ht0 ht1 (hAt_is (hs := hs) (i := hk (other r) t) (by omega))
  have hw : wordF hs (.mv r a t) = if a - t > 2 ∨ t - a > 2 then some (Str.ofString "far") else if hAt hs (hk r a) = [] then some (Str.ofString "empty") else if (hAt hs (hk r a)).length + (hAt hs (hk (other r) t)).length > 4 then some (Str.ofString "full") else none := rfl
  rw [hw]
  generalize hAt hs (hk r a) = l1 at *
  generalize hAt hs (hk (other r) t) = l2 at *
  have i0 : gIx (Dd.mv r a t).D (.int 0) = some (.val (.str "move")) := rfl
  have i1 : gIx (Dd.mv r a t).D (.int 1) = some (.val (.str r)) := rfl
  have i2 : gIx (Dd.mv r a t).D (.int 2) = some (.val (.int a)) := rfl
  have i3 : gIx (Dd.mv r a t).D (.int 3) = some (.val (.int t)) := rfl
  have m1 := eq_move'
  have en := eq_nil l1
  have ef := eq_f hr
  have l1e := len_iD l1
  have l2e := len_iD l2
  have s1 : (fSet 2 (fCallN 3 [0] (fCons (fVar 0) (fCons (fBin (fVar 1) (fC (.int 1)) gIx) (fCons (fBin (fVar 1) (fC (.int 2)) gIx) fNil))) m_hook)) [.ow (lvD hs), .sh (Dd.mv r a t).D, .no, .no] = .ok .nx [.ow (lvD hs), .sh (Dd.mv r a t).D, .sh (.lst (iD l1)), .no] :=
    ev_set (ev_callN (is := [0]) (js := [0]) (mss := [lvD hs]) (ds := [.non, .str r, .int a]) (ev_cons (ev_slot rfl) (ev_cons (ev_bin (ev_var rfl) ev_c rfl rfl i1) (ev_cons (ev_bin (ev_var rfl) ev_c rfl rfl i2) ev_nil))) rfl (by decide) rfl rfl rfl k1 rnRs_ok) rfl
  have q1 : gCmp gt (.int (a - t)) (.int 2) = some (.val (.bl (decide (a - t > 2)))) := rfl
  have q2 : gCmp gt (.int (t - a)) (.int 2) = some (.val (.bl (decide (t - a > 2)))) := rfl
  have t1 : (fOrT (fTest (fBin (fBin (fBin (fVar 1) (fC (.int 2)) gIx) (fBin (fVar 1) (fC (.int 3)) gIx) gSub) (fC (.int 2)) (gCmp gt))) (fTest (fBin (fBin (fBin (fVar 1) (fC (.int 3)) gIx) (fBin (fVar 1) (fC (.int 2)) gIx) gSub) (fC (.int 2)) (gCmp gt)))) [.ow (lvD hs), .sh (Dd.mv r a t).D, .sh (.lst (iD l1)), .no] = .ok (decide (a - t > 2) || decide (t - a > 2)) [.ow (lvD hs), .sh (Dd.mv r a t).D, .sh (.lst (iD l1)), .no] := ev_orB (by walk_at "ev") (by walk_at "ev")
  have tm : fTest (fBin (fBin (fVar 1) (fC (.int 0)) gIx) (fC (.str "move")) gEq) [.ow (lvD hs), .sh (Dd.mv r a t).D, .sh (.lst (iD l1)), .no] = .ok true [.ow (lvD hs), .sh (Dd.mv r a t).D, .sh (.lst (iD l1)), .no] := ev_test (ev_bin (ev_bin (ev_var rfl) ev_c rfl rfl i0) ev_c rfl rfl m1) rfl
  have tn : fTest (fBin (fVar 2) (fLst fNil) gEq) [.ow (lvD hs), .sh (Dd.mv r a t).D, .sh (.lst (iD l1)), .no] = .ok (decide (l1 = [])) [.ow (lvD hs), .sh (Dd.mv r a t).D, .sh (.lst (iD l1)), .no] := ev_test (ev_bin (ev_var rfl) (ev_lst ev_nil rfl (Nat.le_of_ble_eq_true rfl)) rfl rfl en) rfl
  unfold m_word b_word
  by_cases h1 : a - t > 2 ∨ t - a > 2
  · have d1 : (decide (a - t > 2) || decide (t - a > 2)) = true := by
      rcases h1 with h | h
      · rw [decide_eq_true h]; rfl
      · rw [decide_eq_true h, Bool.or_true]
    rw [if_pos h1]
    apply ev_runNrt
    · apply ev_seqK
      · exact s1
      apply seqK_nx
      apply ev_seqK
      · apply ev_if
        · exact tm
        apply ev_iteT rfl
        apply ev_seqK
        · apply ev_if
          · exact t1
          apply ev_iteT d1
          apply ev_retK
          · exact ev_c
          exact retK_val
        exact seqK_rt
      exact seqK_rt
    · rfl
  · have d1 : (decide (a - t > 2) || decide (t - a > 2)) = false := by
      rw [decide_eq_false (fun z => h1 (.inl z)), decide_eq_false (fun z => h1 (.inr z))]; rfl
    rw [if_neg h1]
    by_cases h2 : l1 = []
    · have d2 : decide (l1 = []) = true := decide_eq_true h2
      rw [if_pos h2]
      apply ev_runNrt
      · apply ev_seqK
        · exact s1
        apply seqK_nx
        apply ev_seqK
        · apply ev_if
          · exact tm
          apply ev_iteT rfl
          apply ev_seqK
          · apply ev_if
            · exact t1
            apply ev_iteF d1
            exact ev_next
          apply seqK_nx
          apply ev_seqK
          · apply ev_if
            · exact tn
            apply ev_iteT d2
            apply ev_retK
            · exact ev_c
            exact retK_val
          exact seqK_rt
        exact seqK_rt
      · rfl
    · have d2 : decide (l1 = []) = false := decide_eq_false h2
      rw [if_neg h2]
      have q4 : gCmp gt (.int ((l1.length : Int) + (l2.length : Int))) (.int 4) = some (.val (.bl (decide (((l1.length : Int) + (l2.length : Int)) > 4)))) := rfl
      have hcall : (fCallN 3 [0] (fCons (fVar 0) (fCons (fVar 3) (fCons (fBin (fVar 1) (fC (.int 3)) gIx) fNil))) m_hook) [.ow (lvD hs), .sh (Dd.mv r a t).D, .sh (.lst (iD l1)), .sh (.str (other r))] = .ok (.val (.lst (iD l2))) [.ow (lvD hs), .sh (Dd.mv r a t).D, .sh (.lst (iD l1)), .sh (.str (other r))] :=
        ev_callN (is := [0]) (js := [0]) (mss := [lvD hs]) (ds := [.non, .str (other r), .int t]) (ev_cons (ev_slot rfl) (ev_cons (ev_var rfl) (ev_cons (ev_bin (ev_var rfl) ev_c rfl rfl i3) ev_nil))) rfl (by decide) rfl rfl rfl k2 rnRs_ok
      have tf : fTest (fBin (fBin (fCB (fCons (fVar 2) fNil) gLen) (fCB (fCons (fCallN 3 [0] (fCons (fVar 0) (fCons (fVar 3) (fCons (fBin (fVar 1) (fC (.int 3)) gIx) fNil))) m_hook) fNil) gLen) gAdd) (fC (.int 4)) (gCmp gt)) [.ow (lvD hs), .sh (Dd.mv r a t).D, .sh (.lst (iD l1)), .sh (.str (other r))] = .ok (decide (((l1.length : Int) + (l2.length : Int)) > 4)) [.ow (lvD hs), .sh (Dd.mv r a t).D, .sh (.lst (iD l1)), .sh (.str (other r))] :=
        ev_test (ev_bin (ev_bin (ev_cb (ev_cons (ev_var rfl) ev_nil) rfl l1e) (ev_cb (ev_cons hcall ev_nil) rfl l2e) rfl rfl og_addI) ev_c rfl rfl q4) rfl
      have fin : (fSeq (fIf (fTest (fBin (fBin (fCB (fCons (fVar 2) fNil) gLen) (fCB (fCons (fCallN 3 [0] (fCons (fVar 0) (fCons (fVar 3) (fCons (fBin (fVar 1) (fC (.int 3)) gIx) fNil))) m_hook) fNil) gLen) gAdd) (fC (.int 4)) (gCmp gt))) (fRet (fC (.str "full"))) fNext) (fRet (fC .non))) [.ow (lvD hs), .sh (Dd.mv r a t).D, .sh (.lst (iD l1)), .sh (.str (other r))] = .ok (.rt (wordD (if l1.length + l2.length > 4 then some (Str.ofString "full") else none))) [.ow (lvD hs), .sh (Dd.mv r a t).D, .sh (.lst (iD l1)), .sh (.str (other r))] := by
        by_cases h4 : l1.length + l2.length > 4
        · rw [if_pos h4]
          exact ev_seqK (ev_if tf (ev_iteT (decide_eq_true (by omega)) (ev_retK ev_c retK_val))) seqK_rt
        · rw [if_neg h4]
          exact ev_seqK (ev_if tf (ev_iteF (decide_eq_false (by omega)) ev_next)) (seqK_nx (ev_retK ev_c retK_val))
      have s3 : (fSeq (fSet 3 (fC (.str "f"))) (fSeq (fIf (fTest (fBin (fBin (fVar 1) (fC (.int 1)) gIx) (fC (.str "f")) gEq)) (fSet 3 (fC (.str "b"))) fNext) (fSeq (fIf (fTest (fBin (fBin (fCB (fCons (fVar 2) fNil) gLen) (fCB (fCons (fCallN 3 [0] (fCons (fVar 0) (fCons (fVar 3) (fCons (fBin (fVar 1) (fC (.int 3)) gIx) fNil))) m_hook) fNil) gLen) gAdd) (fC (.int 4)) (gCmp gt))) (fRet (fC (.str "full"))) fNext) (fRet (fC .non))))) [.ow (lvD hs), .sh (Dd.mv r a t).D, .sh (.lst (iD l1)), .no] = .ok (.rt (wordD (if l1.length + l2.length > 4 then some (Str.ofString "full") else none))) [.ow (lvD hs), .sh (Dd.mv r a t).D, .sh (.lst (iD l1)), .sh (.str (other r))] := by
        by_cases hf : r = Str.ofString "f"
        · have d : decide (r = Str.ofString "f") = true := decide_eq_true hf
          have ho : other r = Str.ofString "b" := if_pos hf
          rw [ho] at fin ⊢
          exact ev_seqK (ev_set ev_c rfl) (seqK_nx (ev_seqK (ev_if (ev_test (ev_bin (ev_bin (ev_var rfl) ev_c rfl rfl i1) ev_c rfl rfl ef) rfl) (ev_iteT d (ev_set ev_c rfl))) (seqK_nx fin)))
        · have d : decide (r = Str.ofString "f") = false := decide_eq_false hf
          have ho : other r = Str.ofString "f" := if_neg hf
          rw [ho] at fin ⊢
          exact ev_seqK (ev_set ev_c rfl) (seqK_nx (ev_seqK (ev_if (ev_test (ev_bin (ev_bin (ev_var rfl) ev_c rfl rfl i1) ev_c rfl rfl ef) rfl) (ev_iteF d ev_next)) (seqK_nx fin)))
      apply ev_runNrt
      · apply ev_seqK
        · exact s1
        apply seqK_nx
        apply ev_seqK
        · apply ev_if
          · exact tm
          apply ev_iteT rfl
          apply ev_seqK
          · apply ev_if
            · exact t1
            apply ev_iteF d1
            exact ev_next
          apply seqK_nx
          apply ev_seqK
          · apply ev_if
            · exact tn
            apply ev_iteF d2
            exact ev_next
          apply seqK_nx
          exact s3
        exact seqK_rt
      · rfl
theorem word_ky (hs : List (List Int)) (h32 : hs.length = 32) (k r : Str) (a : Int) (y : Str) (hd : (Dd.ky k r a y).ok) : m_word [.non, (Dd.ky k r a y).D] [lvD hs] = .ok (wordD (wordF hs (.ky k r a y))) [lvD hs] := by
  obtain ⟨hk', hr, ha0, ha1, _⟩ := hd
  have b1 := hk_lt (r := r) ha0 ha1
  have k1 := hook_ok hr ha0 ha1 (hAt_is (hs := hs) (i := hk r a) (by omega))
  have hw : wordF hs (.ky k r a y) = if k = Str.ofString "knit" ∧ hAt hs (hk r a) = [] then some (Str.ofString "empty") else if k = Str.ofString "tuck" ∧ (hAt hs (hk r a)).length = 4 then some (Str.ofString "full") else none := rfl
  rw [hw]
  generalize hAt hs (hk r a) = l1 at *
  have i0 : gIx (Dd.ky k r a y).D (.int 0) = some (.val (.str k)) := rfl
  have i1 : gIx (Dd.ky k r a y).D (.int 1) = some (.val (.str r)) := rfl
  have i2 : gIx (Dd.ky k r a y).D (.int 2) = some (.val (.int a)) := rfl
  have m1 := eq_move hk'
  have en := eq_nil l1
  have l1e := len_iD l1
  have e4 : gEq (.int (l1.length : Int)) (.int 4) = some (.val (.bl (decide ((l1.length : Int) = 4)))) := og_eq rfl
  have s1 : (fSet 2 (fCallN 3 [0] (fCons (fVar 0) (fCons (fBin (fVar 1) (fC (.int 1)) gIx) (fCons (fBin (fVar 1) (fC (.int 2)) gIx) fNil))) m_hook)) [.ow (lvD hs), .sh (Dd.ky k r a y).D, .no, .no] = .ok .nx [.ow (lvD hs), .sh (Dd.ky k r a y).D, .sh (.lst (iD l1)), .no] :=
    ev_set (ev_callN (is := [0]) (js := [0]) (mss := [lvD hs]) (ds := [.non, .str r, .int a]) (ev_cons (ev_slot rfl) (ev_cons (ev_bin (ev_var rfl) ev_c rfl rfl i1) (ev_cons (ev_bin (ev_var rfl) ev_c rfl rfl i2) ev_nil))) rfl (by decide) rfl rfl rfl k1 rnRs_ok) rfl
  have tn : fTest (fBin (fVar 2) (fLst fNil) gEq) [.ow (lvD hs), .sh (Dd.ky k r a y).D, .sh (.lst (iD l1)), .no] = .ok (decide (l1 = [])) [.ow (lvD hs), .sh (Dd.ky k r a y).D, .sh (.lst (iD l1)), .no] := ev_test (ev_bin (ev_var rfl) (ev_lst ev_nil rfl (Nat.le_of_ble_eq_true rfl)) rfl rfl en) rfl
  have t4 : fTest (fBin (fCB (fCons (fVar 2) fNil) gLen) (fC (.int 4)) gEq) [.ow (lvD hs), .sh (Dd.ky k r a y).D, .sh (.lst (iD l1)), .no] = .ok (decide ((l1.length : Int) = 4)) [.ow (lvD hs), .sh (Dd.ky k r a y).D, .sh (.lst (iD l1)), .no] := ev_test (ev_bin (ev_cb (ev_cons (ev_var rfl) ev_nil) rfl l1e) ev_c rfl rfl e4) rfl
  have tmv : fTest (fBin (fBin (fVar 1) (fC (.int 0)) gIx) (fC (.str "move")) gEq) [.ow (lvD hs), .sh (Dd.ky k r a y).D, .sh (.lst (iD l1)), .no] = .ok false [.ow (lvD hs), .sh (Dd.ky k r a y).D, .sh (.lst (iD l1)), .no] := ev_test (ev_bin (ev_bin (ev_var rfl) ev_c rfl rfl i0) ev_c rfl rfl m1) rfl
  have ek : gEq (.str k) (.str (Str.ofString "knit")) = some (.val (.bl (decide (k = Str.ofString "knit")))) := by
    rcases hk' with rfl | rfl
    · rw [decide_eq_true rfl]; exact og_eq (by decide +kernel)
    · rw [decide_eq_false (by decide +kernel)]; exact og_eq (by decide +kernel)
  have et : gEq (.str k) (.str (Str.ofString "tuck")) = some (.val (.bl (decide (k = Str.ofString "tuck")))) := by
    rcases hk' with rfl | rfl
    · rw [decide_eq_false (by decide +kernel)]; exact og_eq (by decide +kernel)
    · rw [decide_eq_true rfl]; exact og_eq (by decide +kernel)
  have ta : fAndT (fTest (fBin (fBin (fVar 1) (fC (.int 0)) gIx) (fC (.str "knit")) gEq)) (fTest (fBin (fVar 2) (fLst fNil) gEq)) [.ow (lvD hs), .sh (Dd.ky k r a y).D, .sh (.lst (iD l1)), .no] = .ok (decide (k = Str.ofString "knit") && decide (l1 = [])) [.ow (lvD hs), .sh (Dd.ky k r a y).D, .sh (.lst (iD l1)), .no] := ev_andB (ev_test (ev_bin (ev_bin (ev_var rfl) ev_c rfl rfl i0) ev_c rfl rfl ek) rfl) tn
  have tb : fAndT (fTest (fBin (fBin (fVar 1) (fC (.int 0)) gIx) (fC (.str "tuck")) gEq)) (fTest (fBin (fCB (fCons (fVar 2) fNil) gLen) (fC (.int 4)) gEq)) [.ow (lvD hs), .sh (Dd.ky k r a y).D, .sh (.lst (iD l1)), .no] = .ok (decide (k = Str.ofString "tuck") && decide ((l1.length : Int) = 4)) [.ow (lvD hs), .sh (Dd.ky k r a y).D, .sh (.lst (iD l1)), .no] := ev_andB (ev_test (ev_bin (ev_bin (ev_var rfl) ev_c rfl rfl i0) ev_c rfl rfl et) rfl) t4
  unfold m_word b_word
  by_cases h1 : k = Str.ofString "knit" ∧ l1 = []
  · rw [if_pos h1]
    have d1 : (decide (k = Str.ofString "knit") && decide (l1 = [])) = true := by rw [decide_eq_true h1.1, decide_eq_true h1.2]; rfl
    apply ev_runNrt
    · exact ev_seqK s1 (seqK_nx (ev_seqK (ev_if tmv (ev_iteF rfl ev_next)) (seqK_nx (ev_seqK (ev_if ta (ev_iteT d1 (ev_retK ev_c retK_val))) seqK_rt))))
    · rfl
  · rw [if_neg h1]
    have d1 : (decide (k = Str.ofString "knit") && decide (l1 = [])) = false := by
      rw [Bool.and_eq_false_iff]
      by_cases z : k = Str.ofString "knit"
      · exact .inr (decide_eq_false fun w => h1 ⟨z, w⟩)
      · exact .inl (decide_eq_false z)
    by_cases h2 : k = Str.ofString "tuck" ∧ l1.length = 4
    · rw [if_pos h2]
      have d2 : (decide (k = Str.ofString "tuck") && decide ((l1.length : Int) = 4)) = true := by rw [decide_eq_true h2.1, decide_eq_true (by omega)]; rfl
      apply ev_runNrt
      · exact ev_seqK s1 (seqK_nx (ev_seqK (ev_if tmv (ev_iteF rfl ev_next)) (seqK_nx (ev_seqK (ev_if ta (ev_iteF d1 ev_next)) (seqK_nx (ev_seqK (ev_if tb (ev_iteT d2 (ev_retK ev_c retK_val))) seqK_rt))))))
      · rfl
    · rw [if_neg h2]
      have d2 : (decide (k = Str.ofString "tuck") && decide ((l1.length : Int) = 4)) = false := by
        rw [Bool.and_eq_false_iff]
        by_cases z : k = Str.ofString "tuck"
        · exact .inr (decide_eq_false fun w => h2 ⟨z, by omega⟩)
        · exact .inl (decide_eq_false z)
      apply ev_runNrt
      · exact ev_seqK s1 (seqK_nx (ev_seqK (ev_if tmv (ev_iteF rfl ev_next)) (seqK_nx (ev_seqK (ev_if ta (ev_iteF d1 ev_next)) (seqK_nx (ev_seqK (ev_if tb (ev_iteF d2 ev_next)) (seqK_nx (ev_retK ev_c retK_val))))))))
      · rfl
theorem word_ok (hs : List (List Int)) (h32 : hs.length = 32) (d : Dd) (hd : d.ok) : m_word [.non, d.D] [lvD hs] = .ok (wordD (wordF hs d)) [lvD hs] := by
  cases d with
  | ky k r a y => exact word_ky hs h32 k r a y hd
  | mv r a t => exact word_mv hs h32 r a t hd
end Lw
namespace Lw
open PySem L2 DL
noncomputable def doF (hs : List (List Int)) (cl : List Lp) : Dd → List (List Int) × List Lp
  | .mv r a t => (((hs.set (hk (other r) t).toNat (hAt hs (hk (other r) t) ++ hAt hs (hk r a))).set (hk r a).toNat []), cl)
  | .ky k r a y => if k = Str.ofString "tuck" then (hs.set (hk r a).toNat (hAt hs (hk r a) ++ [(cl.length : Int)]), cl ++ [(y, Str.ofString "t", [])])
      else (hs.set (hk r a).toNat [(cl.length : Int)], cl ++ [(y, if r = Str.ofString "f" then Str.ofString "k" else Str.ofString "p", hAt hs (hk r a))])
theorem ixN_is {n : Nat} {i : Int} (h0 : 0 ≤ i) (h1 : i < n) : ixN n i = some i.toNat := by
  unfold ixN
  rw [if_pos h0, if_pos h1]
theorem do_mv (hs : List (List Int)) (cl : List Lp) (h32 : hs.length = 32) (hf : ∀ l ∈ hs, l.length ≤ 1000) (r : Str) (a t : Int) (hd : (Dd.mv r a t).ok) : m_do [.non, .non, (Dd.mv r a t).D] [lvD hs, clD cl] = .ok .non [lvD (doF hs cl (.mv r a t)).1, clD (doF hs cl (.mv r a t)).2] := by
  obtain ⟨hr, ha0, ha1, ht0, ht1⟩ := hd
  have b1 := hk_lt (r := r) ha0 ha1
  have b2 := hk_lt (r := other r) ht0 ht1
  have i0 : gIx (Dd.mv r a t).D (.int 0) = some (.val (.str "move")) := rfl
  have i1 : gIx (Dd.mv r a t).D (.int 1) = some (.val (.str r)) := rfl
  have i2 : gIx (Dd.mv r a t).D (.int 2) = some (.val (.int a)) := rfl
  have i3 : gIx (Dd.mv r a t).D (.int 3) = some (.val (.int t)) := rfl
  have m1 := eq_move'
  have eb := eq_b hr
  have hat := at_ok hr a
  have l1 := hAt_is (hs := hs) (i := hk r a) (by omega)
  have l2 := hAt_is (hs := hs) (i := hk (other r) t) (by omega)
  have g1 := lv_ix b1.1 l1
  have g2 := lv_ix b2.1 l2
  have z1 := hf _ (List.mem_of_getElem? l1)
  have z2 := hf _ (List.mem_of_getElem? l2)
  have ga : gAdd (.lst (iD (hAt hs (hk (other r) t)))) (.lst (iD (hAt hs (hk r a)))) = some (.own (iD (hAt hs (hk (other r) t) ++ hAt hs (hk r a)))) := by
    rw [iD_app]
    exact og_addL (by rw [iD_len, iD_len]; unfold sizeLine; omega)
  have s3 : (fSet 3 (fCall 2 (fCons (fBin (fVar 2) (fC (.int 1)) gIx) (fCons (fBin (fVar 2) (fC (.int 2)) gIx) fNil)) m_at)) [.ow (lvD hs), .ow (clD cl), .sh (Dd.mv r a t).D, .no, .no, .no] = .ok .nx [.ow (lvD hs), .ow (clD cl), .sh (Dd.mv r a t).D, .sh (.int (hk r a)), .no, .no] :=
    ev_set (ev_call (ev_cons (ev_bin (ev_var rfl) ev_c rfl rfl i1) (ev_cons (ev_bin (ev_var rfl) ev_c rfl rfl i2) ev_nil)) rfl rfl hat) rfl
  have tm : fTest (fBin (fBin (fVar 2) (fC (.int 0)) gIx) (fC (.str "move")) gEq) [.ow (lvD hs), .ow (clD cl), .sh (Dd.mv r a t).D, .sh (.int (hk r a)), .no, .no] = .ok true [.ow (lvD hs), .ow (clD cl), .sh (Dd.mv r a t).D, .sh (.int (hk r a)), .no, .no] := ev_test (ev_bin (ev_bin (ev_var rfl) ev_c rfl rfl i0) ev_c rfl rfl m1) rfl
  have p1 := ev_putat (i := 0) (f1 := fVar 4) (f2 := fBin (fBin (fVar 0) (fVar 4) gIx) (fBin (fVar 0) (fVar 3) gIx) gAdd) (δ := [.ow (lvD hs), .ow (clD cl), .sh (Dd.mv r a t).D, .sh (.int (hk r a)), .sh (.int (hk (other r) t)), .no]) (es := lvD hs) (ds := lvD hs) (k := hk (other r) t)
    (ev_bin (ev_bin (ev_slot rfl) (ev_var rfl) rfl rfl g2) (ev_bin (ev_slot rfl) (ev_var rfl) rfl rfl g1) rfl rfl ga) rfl rfl (ev_var rfl) rfl rfl (ixN_is b2.1 (by rw [lvD_len, h32]; omega))
  rw [← lvD_set] at p1
  have p2 := ev_putat (i := 0) (f1 := fVar 3) (f2 := fLst fNil) (δ := [.ow (lvD (hs.set (hk (other r) t).toNat (hAt hs (hk (other r) t) ++ hAt hs (hk r a)))), .ow (clD cl), .sh (Dd.mv r a t).D, .sh (.int (hk r a)), .sh (.int (hk (other r) t)), .no]) (es := lvD (hs.set (hk (other r) t).toNat (hAt hs (hk (other r) t) ++ hAt hs (hk r a)))) (ds := lvD (hs.set (hk (other r) t).toNat (hAt hs (hk (other r) t) ++ hAt hs (hk r a)))) (k := hk r a)
    (ev_lst ev_nil rfl (Nat.le_of_ble_eq_true rfl)) rfl rfl (ev_var rfl) rfl rfl (ixN_is b1.1 (by rw [lvD_len, List.length_set, h32]; omega))
  have p2 := p2.trans (by rw [show (D.lst [] : D) = .lst (iD []) from rfl, ← lvD_set])
  have s4 : (fSeq (fSet 4 (fBin (fC (.int 16)) (fBin (fVar 2) (fC (.int 3)) gIx) gAdd)) (fSeq (fIf (fTest (fBin (fBin (fVar 2) (fC (.int 1)) gIx) (fC (.str "b")) gEq)) (fSet 4 (fBin (fVar 2) (fC (.int 3)) gIx)) fNext) (fSeq (fPutAt 0 (fBin (fBin (fVar 0) (fVar 4) gIx) (fBin (fVar 0) (fVar 3) gIx) gAdd) (fVar 4)) (fPutAt 0 (fLst fNil) (fVar 3))))) [.ow (lvD hs), .ow (clD cl), .sh (Dd.mv r a t).D, .sh (.int (hk r a)), .no, .no] = .ok .nx [.ow (lvD (doF hs cl (.mv r a t)).1), .ow (clD cl), .sh (Dd.mv r a t).D, .sh (.int (hk r a)), .sh (.int (hk (other r) t)), .no] := by
    have hfin := ev_seqK p1 (seqK_nx p2)
    by_cases hf' : r = Str.ofString "f"
    · have d : (!decide (r = Str.ofString "f")) = false := by rw [decide_eq_true hf']; rfl
      have ho : hk (other r) t = 16 + t := by
        unfold other hk
        rw [if_pos hf', if_neg (by decide +kernel)]
      have hs4 : (fSet 4 (fBin (fC (.int 16)) (fBin (fVar 2) (fC (.int 3)) gIx) gAdd)) [.ow (lvD hs), .ow (clD cl), .sh (Dd.mv r a t).D, .sh (.int (hk r a)), .no, .no] = .ok .nx [.ow (lvD hs), .ow (clD cl), .sh (Dd.mv r a t).D, .sh (.int (hk r a)), .sh (.int (hk (other r) t)), .no] := by
        rw [ho]
        exact ev_set (ev_bin ev_c (ev_bin (ev_var rfl) ev_c rfl rfl i3) rfl rfl og_addI) rfl
      exact ev_seqK hs4 (seqK_nx (ev_seqK (ev_if (ev_test (ev_bin (ev_bin (ev_var rfl) ev_c rfl rfl i1) ev_c rfl rfl eb) rfl) (ev_iteF d ev_next)) (seqK_nx hfin)))
    · have d : (!decide (r = Str.ofString "f")) = true := by rw [decide_eq_false hf']; rfl
      have ho : hk (other r) t = t := by
        unfold other hk
        rw [if_neg hf', if_pos rfl]
      have hs4 : (fIf (fTest (fBin (fBin (fVar 2) (fC (.int 1)) gIx) (fC (.str "b")) gEq)) (fSet 4 (fBin (fVar 2) (fC (.int 3)) gIx)) fNext) [.ow (lvD hs), .ow (clD cl), .sh (Dd.mv r a t).D, .sh (.int (hk r a)), .sh (.int (16 + t)), .no] = .ok .nx [.ow (lvD hs), .ow (clD cl), .sh (Dd.mv r a t).D, .sh (.int (hk r a)), .sh (.int (hk (other r) t)), .no] := by
        rw [ho]
        exact ev_if (ev_test (ev_bin (ev_bin (ev_var rfl) ev_c rfl rfl i1) ev_c rfl rfl eb) rfl) (ev_iteT d (ev_set (ev_bin (ev_var rfl) ev_c rfl rfl i3) rfl))
      exact ev_seqK (ev_set (ev_bin ev_c (ev_bin (ev_var rfl) ev_c rfl rfl i3) rfl rfl og_addI) rfl) (seqK_nx (ev_seqK hs4 (seqK_nx hfin)))
  unfold m_do b_do
  apply ev_runNnx
  · exact ev_seqK s3 (seqK_nx (ev_if tm (ev_iteT rfl s4)))
  · rfl
end Lw
namespace Lw
open PySem L2 DL
theorem do_ky (hs : List (List Int)) (cl : List Lp) (h32 : hs.length = 32) (hf : ∀ l ∈ hs, l.length ≤ 1000) (hc : cl.length ≤ 1000) (k r : Str) (a : Int) (y : Str) (hd : (Dd.ky k r a y).ok) : m_do [.non, .non, (Dd.ky k r a y).D] [lvD hs, clD cl] = .ok .non [lvD (doF hs cl (.ky k r a y)).1, clD (doF hs cl (.ky k r a y)).2] := by
  obtain ⟨hk', hr, ha0, ha1, hy⟩ := hd
  have b1 := hk_lt (r := r) ha0 ha1
  have i0 : gIx (Dd.ky k r a y).D (.int 0) = some (.val (.str k)) := rfl
  have i1 : gIx (Dd.ky k r a y).D (.int 1) = some (.val (.str r)) := rfl
  have i2 : gIx (Dd.ky k r a y).D (.int 2) = some (.val (.int a)) := rfl
  have i3 : gIx (Dd.ky k r a y).D (.int 3) = some (.val (.str y)) := rfl
  have m1 := eq_move hk'
  have ef := eq_f hr
  have hat := at_ok hr a
  have l1 := hAt_is (hs := hs) (i := hk r a) (by omega)
  have g1 := lv_ix b1.1 l1
  have z1 := hf _ (List.mem_of_getElem? l1)
  have gc : gLen [.lst (clD cl)] = some (.val (.int (cl.length : Int))) := by
    show some (DV.val (.int _)) = _
    rw [clD_len]
  have zc : (clD cl).length < sizeLine := by rw [clD_len]; unfold sizeLine; omega
  have hx : ixN (lvD hs).length (hk r a) = some (hk r a).toNat := ixN_is b1.1 (by rw [lvD_len, h32]; omega)
  have s3 : (fSet 3 (fCall 2 (fCons (fBin (fVar 2) (fC (.int 1)) gIx) (fCons (fBin (fVar 2) (fC (.int 2)) gIx) fNil)) m_at)) [.ow (lvD hs), .ow (clD cl), .sh (Dd.ky k r a y).D, .no, .no, .no] = .ok .nx [.ow (lvD hs), .ow (clD cl), .sh (Dd.ky k r a y).D, .sh (.int (hk r a)), .no, .no] :=
    ev_set (ev_call (ev_cons (ev_bin (ev_var rfl) ev_c rfl rfl i1) (ev_cons (ev_bin (ev_var rfl) ev_c rfl rfl i2) ev_nil)) rfl rfl hat) rfl
  have tm : fTest (fBin (fBin (fVar 2) (fC (.int 0)) gIx) (fC (.str "move")) gEq) [.ow (lvD hs), .ow (clD cl), .sh (Dd.ky k r a y).D, .sh (.int (hk r a)), .no, .no] = .ok false [.ow (lvD hs), .ow (clD cl), .sh (Dd.ky k r a y).D, .sh (.int (hk r a)), .no, .no] := ev_test (ev_bin (ev_bin (ev_var rfl) ev_c rfl rfl i0) ev_c rfl rfl m1) rfl
  have et : gEq (.str k) (.str (Str.ofString "tuck")) = some (.val (.bl (decide (k = Str.ofString "tuck")))) := by
    rcases hk' with rfl | rfl
    · rw [decide_eq_false (by decide +kernel)]; exact og_eq (by decide +kernel)
    · rw [decide_eq_true rfl]; exact og_eq (by decide +kernel)
  have tt : fTest (fBin (fBin (fVar 2) (fC (.int 0)) gIx) (fC (.str "tuck")) gEq) [.ow (lvD hs), .ow (clD cl), .sh (Dd.ky k r a y).D, .sh (.int (hk r a)), .no, .no] = .ok (decide (k = Str.ofString "tuck")) [.ow (lvD hs), .ow (clD cl), .sh (Dd.ky k r a y).D, .sh (.int (hk r a)), .no, .no] := ev_test (ev_bin (ev_bin (ev_var rfl) ev_c rfl rfl i0) ev_c rfl rfl et) rfl
  have hdo : doF hs cl (.ky k r a y) = if k = Str.ofString "tuck" then (hs.set (hk r a).toNat (hAt hs (hk r a) ++ [(cl.length : Int)]), cl ++ [(y, Str.ofString "t", [])])
      else (hs.set (hk r a).toNat [(cl.length : Int)], cl ++ [(y, if r = Str.ofString "f" then Str.ofString "k" else Str.ofString "p", hAt hs (hk r a))]) := rfl
  rw [hdo]
  unfold m_do b_do
  by_cases ht : k = Str.ofString "tuck"
  · rw [if_pos ht]
    have ga : gAdd (.lst (iD (hAt hs (hk r a)))) (.lst [.int (cl.length : Int)]) = some (.own (iD (hAt hs (hk r a) ++ [(cl.length : Int)]))) := by
      rw [iD_app]
      exact og_addL (by rw [iD_len]; show _ + 1 ≤ _; unfold sizeLine; omega)
    have p1 := ev_putat (i := 0) (f1 := fVar 3) (f2 := fBin (fBin (fVar 0) (fVar 3) gIx) (fLst (fCons (fCB (fCons (fVar 1) fNil) gLen) fNil)) gAdd) (δ := [.ow (lvD hs), .ow (clD cl), .sh (Dd.ky k r a y).D, .sh (.int (hk r a)), .no, .no]) (es := lvD hs) (ds := lvD hs) (k := hk r a)
      (ev_bin (ev_bin (ev_slot rfl) (ev_var rfl) rfl rfl g1) (ev_lst (ev_cons (ev_cb (ev_cons (ev_slot rfl) ev_nil) rfl gc) ev_nil) rfl (Nat.le_of_ble_eq_true rfl)) rfl rfl ga) rfl rfl (ev_var rfl) rfl rfl hx
    rw [← lvD_set] at p1
    have p2 : (fApp' 1 (fTup (fCons (fBin (fVar 2) (fC (.int 3)) gIx) (fCons (fC (.str "t")) (fCons (fTup fNil) fNil))))) [.ow (lvD (hs.set (hk r a).toNat (hAt hs (hk r a) ++ [(cl.length : Int)]))), .ow (clD cl), .sh (Dd.ky k r a y).D, .sh (.int (hk r a)), .no, .no] = .ok .nx [.ow (lvD (hs.set (hk r a).toNat (hAt hs (hk r a) ++ [(cl.length : Int)]))), .ow (clD (cl ++ [(y, Str.ofString "t", [])])), .sh (Dd.ky k r a y).D, .sh (.int (hk r a)), .no, .no] := by
      rw [clD_app]
      exact ev_app (i := 1) (es := clD cl) (ds := clD cl) rfl (ev_tup (ev_cons (ev_bin (ev_var rfl) ev_c rfl rfl i3) (ev_cons ev_c (ev_cons (ev_tup ev_nil rfl (Nat.le_of_ble_eq_true rfl)) ev_nil))) rfl (Nat.le_of_ble_eq_true rfl)) rfl rfl zc
    apply ev_runNnx
    · exact ev_seqK s3 (seqK_nx (ev_if tm (ev_iteF rfl (ev_if tt (ev_iteT (decide_eq_true ht) (ev_seqK p1 (seqK_nx p2)))))))
    · rfl
  · rw [if_neg ht]
    have gt : gTuple [.lst (iD (hAt hs (hk r a)))] = some (.val (.tup (iD (hAt hs (hk r a))))) := rfl
    have fin : ∀ w : Str, (fSeq (fApp' 1 (fTup (fCons (fBin (fVar 2) (fC (.int 3)) gIx) (fCons (fVar 5) (fCons (fCB (fCons (fBin (fVar 0) (fVar 3) gIx) fNil) gTuple) fNil)))))
        (fPutAt 0 (fLst (fCons (fBin (fCB (fCons (fVar 1) fNil) gLen) (fC (.int 1)) gSub) fNil)) (fVar 3))) [.ow (lvD hs), .ow (clD cl), .sh (Dd.ky k r a y).D, .sh (.int (hk r a)), .no, .sh (.str w)] = .ok .nx [.ow (lvD (hs.set (hk r a).toNat [(cl.length : Int)])), .ow (clD (cl ++ [(y, w, hAt hs (hk r a))])), .sh (Dd.ky k r a y).D, .sh (.int (hk r a)), .no, .sh (.str w)] := by
      intro w
      have a1 : (fApp' 1 (fTup (fCons (fBin (fVar 2) (fC (.int 3)) gIx) (fCons (fVar 5) (fCons (fCB (fCons (fBin (fVar 0) (fVar 3) gIx) fNil) gTuple) fNil))))) [.ow (lvD hs), .ow (clD cl), .sh (Dd.ky k r a y).D, .sh (.int (hk r a)), .no, .sh (.str w)] = .ok .nx [.ow (lvD hs), .ow (clD (cl ++ [(y, w, hAt hs (hk r a))])), .sh (Dd.ky k r a y).D, .sh (.int (hk r a)), .no, .sh (.str w)] := by
        rw [clD_app]
        exact ev_app (i := 1) (es := clD cl) (ds := clD cl) rfl (ev_tup (ev_cons (ev_bin (ev_var rfl) ev_c rfl rfl i3) (ev_cons (ev_var rfl) (ev_cons (ev_cb (ev_cons (ev_bin (ev_slot rfl) (ev_var rfl) rfl rfl g1) ev_nil) rfl gt) ev_nil))) rfl (Nat.le_of_ble_eq_true rfl)) rfl rfl zc
      have g9 : gLen [.lst (clD (cl ++ [(y, w, hAt hs (hk r a))]))] = some (.val (.int ((cl.length : Int) + 1))) := by
        show some (DV.val (.int _)) = _
        rw [clD_len, List.length_append]; rfl
      have g10 : gSub (.int ((cl.length : Int) + 1)) (.int 1) = some (.val (.int (cl.length : Int))) := by
        show some (DV.val (.int _)) = _
        rw [Int.add_sub_cancel]
      have p1 := ev_putat (i := 0) (f1 := fVar 3) (f2 := fLst (fCons (fBin (fCB (fCons (fVar 1) fNil) gLen) (fC (.int 1)) gSub) fNil)) (δ := [.ow (lvD hs), .ow (clD (cl ++ [(y, w, hAt hs (hk r a))])), .sh (Dd.ky k r a y).D, .sh (.int (hk r a)), .no, .sh (.str w)]) (es := lvD hs) (ds := lvD hs) (k := hk r a)
        (ev_lst (ev_cons (ev_bin (ev_cb (ev_cons (ev_slot rfl) ev_nil) rfl g9) ev_c rfl rfl g10) ev_nil) rfl (Nat.le_of_ble_eq_true rfl)) rfl rfl (ev_var rfl) rfl rfl hx
      refine ev_seqK a1 (seqK_nx ?_)
      rw [lvD_set]
      exact p1
    by_cases hf' : r = Str.ofString "f"
    · have d : decide (r = Str.ofString "f") = true := decide_eq_true hf'
      rw [if_pos hf']
      apply ev_runNnx
      · exact ev_seqK s3 (seqK_nx (ev_if tm (ev_iteF rfl (ev_if tt (ev_iteF (decide_eq_false ht) (ev_seqK (ev_set ev_c rfl) (seqK_nx (ev_seqK (ev_if (ev_test (ev_bin (ev_bin (ev_var rfl) ev_c rfl rfl i1) ev_c rfl rfl ef) rfl) (ev_iteT d (ev_set ev_c rfl))) (seqK_nx (fin _))))))))))
      · rfl
    · have d : decide (r = Str.ofString "f") = false := decide_eq_false hf'
      rw [if_neg hf']
      apply ev_runNnx
      · exact ev_seqK s3 (seqK_nx (ev_if tm (ev_iteF rfl (ev_if tt (ev_iteF (decide_eq_false ht) (ev_seqK (ev_set ev_c rfl) (seqK_nx (ev_seqK (ev_if (ev_test (ev_bin (ev_bin (ev_var rfl) ev_c rfl rfl i1) ev_c rfl rfl ef) rfl) (ev_iteF d ev_next)) (seqK_nx (fin _))))))))))
      · rfl
theorem do_ok (hs : List (List Int)) (cl : List Lp) (h32 : hs.length = 32) (hf : ∀ l ∈ hs, l.length ≤ 1000) (hc : cl.length ≤ 1000) (d : Dd) (hd : d.ok) : m_do [.non, .non, d.D] [lvD hs, clD cl] = .ok .non [lvD (doF hs cl d).1, clD (doF hs cl d).2] := by
  cases d with
  | ky k r a y => exact do_ky hs cl h32 hf hc k r a y hd
  | mv r a t => exact do_mv hs cl h32 hf r a t hd
end Lw
namespace Lw
open PySem L2 DL
inductive Bed : List (List Int) → List Lp → Nat → Prop
  | start : Bed (List.replicate 32 []) [] 0
  | step {hs : List (List Int)} {cl : List Lp} {n : Nat} {d : Dd} : Bed hs cl n → d.ok → wordF hs d = none → Bed (doF hs cl d).1 (doF hs cl d).2 (n + 1)
  | skip {hs : List (List Int)} {cl : List Lp} {n : Nat} : Bed hs cl n → Bed hs cl (n + 1)
theorem hAt_mem {hs : List (List Int)} {i : Int} (h : i.toNat < hs.length) : hAt hs i ∈ hs := List.mem_of_getElem? (hAt_is h)
theorem Bed.size {hs : List (List Int)} {cl : List Lp} {n : Nat} (h : Bed hs cl n) : hs.length = 32 ∧ (∀ l ∈ hs, l.length ≤ 4) ∧ cl.length ≤ n := by
  induction h with
  | start => exact ⟨List.length_replicate, fun l hl => by rw [List.eq_of_mem_replicate hl]; exact Nat.zero_le _, Nat.le_refl _⟩
  | skip h ih => exact ⟨ih.1, ih.2.1, by omega⟩
  | @step hs cl n d h hd hw ih =>
    obtain ⟨i1, i2, i3⟩ := ih
    cases d with
    | mv r a t =>
      obtain ⟨hr, ha0, ha1, ht0, ht1⟩ := hd
      have b2 := hk_lt (r := other r) ht0 ht1
      have hw' : (if a - t > 2 ∨ t - a > 2 then some (Str.ofString "far") else if hAt hs (hk r a) = [] then some (Str.ofString "empty") else if (hAt hs (hk r a)).length + (hAt hs (hk (other r) t)).length > 4 then some (Str.ofString "full") else none) = none := hw
      have h4 : (hAt hs (hk r a)).length + (hAt hs (hk (other r) t)).length ≤ 4 := by
        split at hw'
        · cases hw'
        · split at hw'
          · cases hw'
          · split at hw'
            · cases hw'
            · omega
      refine ⟨?_, fun l hl => ?_, by show cl.length ≤ n + 1; omega⟩
      · show ((hs.set _ _).set _ _).length = 32
        rw [List.length_set, List.length_set]; exact i1
      · rcases List.mem_or_eq_of_mem_set (show l ∈ (hs.set _ _).set _ _ from hl) with z | z
        · rcases List.mem_or_eq_of_mem_set z with z | z
          · exact i2 l z
          · rw [z, List.length_append]; omega
        · rw [z]; exact Nat.zero_le _
    | ky k r a y =>
      obtain ⟨hk', hr, ha0, ha1, hy⟩ := hd
      have b1 := hk_lt (r := r) ha0 ha1
      have hw' : (if k = Str.ofString "knit" ∧ hAt hs (hk r a) = [] then some (Str.ofString "empty") else if k = Str.ofString "tuck" ∧ (hAt hs (hk r a)).length = 4 then some (Str.ofString "full") else none) = none := hw
      have l4 := i2 _ (hAt_mem (hs := hs) (i := hk r a) (by omega))
      have hdo : doF hs cl (.ky k r a y) = if k = Str.ofString "tuck" then (hs.set (hk r a).toNat (hAt hs (hk r a) ++ [(cl.length : Int)]), cl ++ [(y, Str.ofString "t", [])])
        else (hs.set (hk r a).toNat [(cl.length : Int)], cl ++ [(y, if r = Str.ofString "f" then Str.ofString "k" else Str.ofString "p", hAt hs (hk r a))]) := rfl
      rw [hdo]
      by_cases ht : k = Str.ofString "tuck"
      · have h4 : (hAt hs (hk r a)).length ≠ 4 := fun z => by
          split at hw'
          · cases hw'
          · rw [if_pos ⟨ht, z⟩] at hw'; cases hw'
        rw [if_pos ht]
        refine ⟨by show (hs.set _ _).length = 32; rw [List.length_set]; exact i1, fun l hl => ?_, by show (cl ++ [_]).length ≤ n + 1; rw [List.length_append, List.length_singleton]; omega⟩
        rcases List.mem_or_eq_of_mem_set (show l ∈ hs.set _ _ from hl) with z | z
        · exact i2 l z
        · rw [z, List.length_append, List.length_singleton]; omega
      · rw [if_neg ht]
        refine ⟨by show (hs.set _ _).length = 32; rw [List.length_set]; exact i1, fun l hl => ?_, by show (cl ++ [_]).length ≤ n + 1; rw [List.length_append, List.length_singleton]; omega⟩
        rcases List.mem_or_eq_of_mem_set (show l ∈ hs.set _ _ from hl) with z | z
        · exact i2 l z
        · rw [z]; show 1 ≤ 4; omega
end Lw
namespace DL
open PySem L2
section
variable {δ δ1 δ2 : DSt} {i n : Nat} {f f1 f2 : DM DV} {fa : DM (List DV)} {a a1 a2 : DV} {as : List DV} {ds : List D} {b : Bd} {own : Bool} {d : D} {r : Str} {k : Int} {ks : List (Str × Int)} {vs ls bs : List D}
theorem ev_callR {M : List D → Ro} {Z : Rs DV} (h : fa δ = .ok as δ) (e : valsOf as = some ds) (hb : bedAt δ i = some (b, own)) (hn : ds.length + 1 = n) (hr : roR own (M (b.d :: ds)) δ = Z) : fCallR i n fa M δ = Z := by
  unfold fCallR DM.bd
  simp only [hb, Option.isSome_some, if_true, h, e, hn]
  exact hr
theorem ev_callW {M : Bd → List D → Rw} {Z : Rs DV} (h : fa δ = .ok as δ) (e : valsOf as = some ds) (hb : bedAt δ i = some (b, own)) (hn : ds.length + 1 = n) (hr : rwW i own (M b ds) δ = Z) : fCallW i n fa M δ = Z := by
  unfold fCallW DM.bd
  simp only [hb, Option.isSome_some, if_true, h, e, hn]
  exact hr
theorem ev_callWX {M : Bd → List D → Rw} {Z : Rs (Sum Str DV)} (h : fa δ = .ok as δ) (e : valsOf as = some ds) (hb : bedAt δ i = some (b, own)) (hn : ds.length + 1 = n) (hr : rwX i own (M b ds) δ = Z) : fCallWX i n fa M δ = Z := by
  unfold fCallWX DM.bd
  simp only [hb, Option.isSome_some, if_true, h, e, hn]
  exact hr
theorem ev_bget (h : f δ = .ok a δ) (e : res δ (norm a) = some (.key r k)) (hb : bedAt δ i = some (b, own)) : fBGet i f δ = .ok (.val ((lookB b.ks b.vs (r, k)).getD (.tup []))) δ := by
  unfold fBGet fN DM.bd DM.ret
  simp only [hb, Option.isSome_some, if_true, h, e]
theorem ev_bput (h2 : f2 δ = .ok a2 δ) (e2 : norm a2 = .val d) (hb : δ[i]? = some (.ob ks vs ls bs)) (h1 : f1 δ = .ok a1 δ) (e1 : res δ (norm a1) = some (.key r k)) (hz : ks.length < sizeLine) : fBPut i f2 f1 δ = .ok .nx (δ.set i (.ob (putKs ks (r, k)) (putVs ks vs (r, k) d) ls bs)) := by
  unfold fBPut isOb fN DM.bd DM.ret
  simp only [h2, e2, hb, if_true, h1, e1, hz]
theorem ev_appK (hb : δ[i]? = some (.ob ks vs ls bs)) (h : f δ = .ok a δ) (e : norm a = .val d) (hz : ls.length < sizeLine) : fAppK i f δ = .ok .nx (δ.set i (.ob ks vs (ls ++ [d]) bs)) := by
  unfold fAppK isOb fN DM.bd DM.ret
  simp only [hb, if_true, h, e, hz]
theorem ev_appP (hb : δ[i]? = some (.ob ks vs ls bs)) (h : f δ = .ok a δ) (e : norm a = .val d) (hz : bs.length < sizeLine) : fAppP i f δ = .ok .nx (δ.set i (.ob ks vs ls (bs ++ [d]))) := by
  unfold fAppP isOb fN DM.bd DM.ret
  simp only [hb, if_true, h, e, hz]
theorem ev_key (h : fa δ = .ok as δ) (e : valsOf as = some [.str r, .int k]) : fKey fa δ = .ok (.val (.key r k)) δ := by
  unfold fKey DM.bd
  simp only [h, e]
theorem ev_tru (h : f δ = .ok a δ) (e : res δ (norm a) = some (.tup ds)) : fTru f δ = .ok (!ds.isEmpty) δ := by
  unfold fTru fN DM.bd DM.ret
  simp only [h, e]
theorem ev_thaw (hb : δ[i]? = some (.ob ks vs ls bs)) (h : f (thaw i ⟨ks, vs, ls, bs⟩ δ) = .ok (.own ds) δ1) (hf : flats ds = true) : fThaw i f δ = .ok (.own ds) δ := by
  unfold fThaw
  simp only [hb, h, hf, if_true]
theorem seqK_er {c : Str} {S1 : DM Fl} : seqK (.er c) S1 = .er c := rfl
theorem ev_drp {f : DM DV} (h : f δ = .ok a δ1) : fDrop f δ = .ok .nx δ1 := by unfold fDrop DM.bd DM.ret; simp only [h]
variable {body : DM Fl} {b' : Bd} {c : Str}
theorem ev_runWrt (h : body (b.sl :: tailN n ds) = .ok (.rt d) δ1) (e : δ1[(0 : Nat)]? = some b'.sl) : runW body n b ds = .ok d b' := by
  unfold runW finW
  simp only [h, e]
theorem ev_runWnx (h : body (b.sl :: tailN n ds) = .ok .nx δ1) (e : δ1[(0 : Nat)]? = some b'.sl) : runW body n b ds = .ok .non b' := by
  unfold runW finW
  simp only [h, e]
theorem ev_runWX (h : runW body n b ds = .ok d b') : runWX body n b ds = .ok d b' := by unfold runWX; rw [h]
theorem ev_runWXe (h : body (b.sl :: tailN n ds) = .er c) (h2 : body (.sh b.d :: tailN n ds) = .er c) : runWX body n b ds = .er c := by
  unfold runWX runW
  simp only [h, h2]
end
end DL
namespace Lw
open PySem L2 DL
noncomputable abbrev tI (l : List Int) : D := .tup (iD l)
noncomputable abbrev kD (q : Str × Int) : D := .key q.1 q.2
noncomputable def lk (b : Bd) (q : Str × Int) : D := (lookB b.ks b.vs q).getD (.tup [])
theorem flats_iD : ∀ l : List Int, flats (iD l) = true
  | [] => rfl
  | _ :: l => by change (true && flats (iD l)) = true; rw [flats_iD l]; rfl
theorem flat_tI (l : List Int) : flat (tI l) = true := flats_iD l
theorem loops_at_ok (b : Bd) (q : Str × Int) : m_Bed_loops_at [b.d, kD q] = .ok (lk b q) := by
  unfold m_Bed_loops_at b_Bed_loops_at lk
  exact ev_run (ev_retK (ev_bget (own := false) (b := b) (r := q.1) (k := q.2) (ev_var rfl) rfl rfl) retK_val)
theorem la {δ : DSt} {i j : Nat} {b : Bd} {own : Bool} {q : Str × Int} (hb : bedAt δ i = some (b, own)) (hj : δ[j]? = some (.sh (kD q))) (hf : flat (lk b q) = true) : fCallR i 2 (fCons (fVar j) fNil) m_Bed_loops_at δ = .ok (.val (lk b q)) δ := by
  refine ev_callR (ev_cons (ev_var hj) ev_nil) rfl hb rfl ?_
  change roR own (m_Bed_loops_at [b.d, kD q]) δ = _
  rw [loops_at_ok]
  unfold roR
  simp only [hf, Bool.or_true, if_true]
noncomputable def stp (b : Bd) (qs : List (Str × Int)) : List D := qs.map fun q => .tup [kD q, lk b q]
theorem keep_comp (b : Bd) (qs : List (Str × Int)) (hq : qs.length ≤ 2) (hf : ∀ q ∈ qs, flat (lk b q) = true) : compD (sName 0) (.ret true) (fTup (fCons (fVar 0) (fCons (fCallR 1 2 (fCons (fVar 0) fNil) m_Bed_loops_at) fNil))) (qs.map kD) [.no, .sh b.d] [] = some (stp b qs) := by
  refine (comp_map (g := fun d => match d with | .key r k => .tup [.key r k, lk b (r, k)] | d => d) _ .no (by rw [List.length_map]; unfold sizeLine; omega) fun d hd => ?_).trans (by unfold stp; rw [List.map_map]; rfl)
  obtain ⟨q, hq', rfl⟩ := List.mem_map.mp hd
  have h : (fTup (fCons (fVar 0) (fCons (fCallR 1 2 (fCons (fVar 0) fNil) m_Bed_loops_at) fNil))) [.sh (kD q), .sh b.d] = .ok (.val (.tup [kD q, lk b q])) [.sh (kD q), .sh b.d] :=
    ev_tup (ev_cons (ev_var rfl) (ev_cons (la (own := false) (b := b) rfl rfl (hf q hq')) ev_nil)) rfl (by change 2 ≤ sizeLine; unfold sizeLine; omega)
  unfold fN DM.bd
  rw [h]
  rfl
theorem flats_stp (b : Bd) : ∀ (qs : List (Str × Int)), (∀ q ∈ qs, flat (lk b q) = true) → flats (stp b qs) = true
  | [], _ => rfl
  | q :: qs, h => by
    change ((true && (flat (lk b q) && true)) && flats (stp b qs)) = true
    rw [h q List.mem_cons_self, flats_stp b qs fun x hx => h x (List.mem_cons_of_mem _ hx)]
    rfl
theorem keep_ok (b : Bd) (dd : D) (qs : List (Str × Int)) (hq : qs.length ≤ 2) (hf : ∀ q ∈ qs, flat (lk b q) = true) (hz : b.bs.length < sizeLine) : m_Bed_keep b [dd, .lst (qs.map kD)] = .ok .non { b with bs := b.bs ++ [.tup [dd, .lst (stp b qs)]] } := by
  unfold m_Bed_keep b_Bed_keep
  refine ev_runWnx (δ1 := [.ob b.ks b.vs b.as (b.bs ++ [.tup [dd, .lst (stp b qs)]]), .sh dd, .sh (.lst (qs.map kD))]) ?_ rfl
  exact ev_appP (i := 0) rfl (ev_tup (ev_cons (ev_var rfl) (ev_cons (ev_thaw (i := 0) rfl (ev_lc (ev_it (ev_var rfl) rfl rfl) (keep_comp b qs hq hf)) (flats_stp b qs hf)) ev_nil)) rfl (by change 2 ≤ sizeLine; unfold sizeLine; omega)) rfl hz
theorem new_loop_ok (b : Bd) (y w h : D) (hz : b.as.length < sizeLine) : m_Bed_new_loop b [y, w, h] = .ok (.int (b.as.length : Int)) { b with as := b.as ++ [.tup [y, w, h]] } := by
  unfold m_Bed_new_loop b_Bed_new_loop
  refine ev_runWrt (δ1 := [.ob b.ks b.vs (b.as ++ [.tup [y, w, h]]) b.bs, .sh y, .sh w, .sh h]) ?_ rfl
  have e : ((b.as ++ [D.tup [y, w, h]]).length : Int) - 1 = (b.as.length : Int) := by rw [List.length_append]; change ((b.as.length + 1 : Nat) : Int) - 1 = _; omega
  refine ev_seqK (ev_appK (i := 0) rfl (ev_tup (ev_cons (ev_var rfl) (ev_cons (ev_var rfl) (ev_cons (ev_var rfl) ev_nil))) rfl (by change 3 ≤ sizeLine; unfold sizeLine; omega)) rfl hz) (seqK_nx (ev_retK (ev_bin (ev_cb (ev_cons (rfl : fFld 0 1 _ = .ok (.fld 0 1) _) ev_nil) rfl rfl) ev_c rfl rfl rfl) ?_))
  change Rs.ok (Fl.rt (.int (((b.as ++ [D.tup [y, w, h]]).length : Int) - 1))) _ = _
  rw [e]
  rfl
end Lw
namespace Lw
open PySem L2 DL
theorem okI_n : ∀ n : Nat, n < 16 → okI (.int (n : Int)) = true := by decide +kernel
theorem okI_int {a : Int} (h0 : 0 ≤ a) (h1 : a ≤ 15) : okI (.int a) = true := by
  have := okI_n a.toNat (by omega)
  rwa [Int.toNat_of_nonneg h0] at this
theorem okI_row {r : Str} (h : RowOk r) : okI (.str r) = true := by rcases h with rfl | rfl <;> decide +kernel
theorem okI_yarn : ∀ y ∈ yarns, okI (.str y) = true := by
  have : (yarns.all fun y => okI (.str y)) = true := by decide +kernel
  exact fun y hy => List.all_eq_true.mp this y hy
theorem okI_knit : okI (.str (Str.ofString "knit")) = true := by decide +kernel
theorem okI_tuck : okI (.str (Str.ofString "tuck")) = true := by decide +kernel
theorem okI_move : okI (.str (Str.ofString "move")) = true := by decide +kernel
theorem ok_deed : ∀ (d : Dd), d.ok → ∃ ds, d.D = .tup ds ∧ (decide (ds.length ≤ 10) && ds.all okI) = true
  | .ky k r a y, ⟨hk, hr, h0, h1, hy⟩ => ⟨_, rfl, by
    have : okI (.str k) = true := by rcases hk with rfl | rfl; exact okI_knit; exact okI_tuck
    simp only [List.all_cons, List.all_nil, this, okI_row hr, okI_int h0 h1, okI_yarn y hy, Bool.and_true, List.length_cons, List.length_nil]
    rfl⟩
  | .mv r a t, ⟨hr, h0, h1, h2, h3⟩ => ⟨_, rfl, by
    simp only [List.all_cons, List.all_nil, okI_move, okI_row hr, okI_int h0 h1, okI_int h2 h3, Bool.and_true, List.length_cons, List.length_nil]
    rfl⟩
theorem okT_deed {d : Dd} (h : d.ok) {δ : DSt} (hs : δ[1]? = some (.sh d.D)) : okT 1 δ = true := by
  obtain ⟨ds, e, q⟩ := ok_deed d h
  unfold okT
  rw [hs, e]
  exact q
theorem len_tI (l : List Int) : gLen [tI l] = some (.val (.int (l.length : Int))) := by
  change some (DV.val (.int ((iD l).length : Int))) = _
  rw [iD_len]
noncomputable abbrev dT (r : Str) (a : Int) (y : Str) : Dd := .ky (Str.ofString "tuck") r a y
noncomputable abbrev dK (r : Str) (a : Int) (y : Str) : Dd := .ky (Str.ofString "knit") r a y
theorem keep1 (b : Bd) (dd : D) (r : Str) (a : Int) (l : List Int) (hl : lk b (r, a) = tI l) (hz : b.bs.length < sizeLine) : m_Bed_keep b [dd, .lst [.key r a]] = .ok .non { b with bs := b.bs ++ [.tup [dd, .lst [.tup [.key r a, tI l]]]] } := by
  have h := keep_ok b dd [(r, a)] (by change 1 ≤ 2; omega) (fun q hq => by rw [List.mem_singleton.mp hq, hl]; exact flat_tI l) hz
  unfold stp at h
  rw [List.map_cons, List.map_nil, List.map_cons, List.map_nil, hl] at h
  exact h
theorem keep2 (b : Bd) (dd : D) (r r' : Str) (a a' : Int) (l l' : List Int) (hl : lk b (r, a) = tI l) (hl' : lk b (r', a') = tI l') (hz : b.bs.length < sizeLine) : m_Bed_keep b [dd, .lst [.key r a, .key r' a']] = .ok .non { b with bs := b.bs ++ [.tup [dd, .lst [.tup [.key r a, tI l], .tup [.key r' a', tI l']]]] } := by
  have h := keep_ok b dd [(r, a), (r', a')] (by change 2 ≤ 2; omega) (fun q hq => by
    rcases List.mem_cons.mp hq with rfl | hq
    · rw [hl]; exact flat_tI l
    · rw [List.mem_singleton.mp hq, hl']; exact flat_tI l') hz
  unfold stp at h
  rw [List.map_cons, List.map_cons, List.map_nil, List.map_cons, List.map_cons, List.map_nil, hl, hl'] at h
  exact h
section
variable {s : Sl} {b : Bd} {own : Bool} {r : Str} {a : Int} {y : Str} {l : List Int}
theorem tuck_full (hs : ∀ rest, bedAt (s :: rest) 0 = some (b, own)) (hd : (dT r a y).ok) (hl : lk b (r, a) = tI l) (h4 : 4 ≤ l.length) : b_Bed_tuck (s :: tailN 5 [(dT r a y).D]) = .er "Overfull" := by
  have hf : flat (lk b (r, a)) = true := by rw [hl]; exact flat_tI l
  unfold b_Bed_tuck
  refine ev_seqK (R1 := .ok .nx [s, .sh (dT r a y).D, .sh (.key r a), .no, .no]) (ev_set (ev_key (ev_cons (ev_bin (ev_var rfl) ev_c rfl rfl rfl) (ev_cons (ev_bin (ev_var rfl) ev_c rfl rfl rfl) ev_nil)) rfl) rfl) (seqK_nx ?_)
  refine ev_seqK (R1 := .ok .nx [s, .sh (dT r a y).D, .sh (.key r a), .sh (tI l), .no]) ((ev_set (la (q := (r, a)) (hs _) rfl hf) rfl).trans (by rw [hl]; rfl)) (seqK_nx ?_)
  refine ev_seqK (ev_if (ev_test (ev_bin (ev_cb (ev_cons (ev_var rfl) ev_nil) rfl (len_tI l)) ev_c rfl rfl rfl) rfl) (ev_iteT (decide_eq_true (by omega)) (ev_raise ?_))) seqK_er
  change (true && (okT 1 _ && true)) = true
  rw [okT_deed hd rfl]
  rfl
theorem knit_empty (hs : ∀ rest, bedAt (s :: rest) 0 = some (b, own)) (hd : (dK r a y).ok) (hl : lk b (r, a) = tI []) : b_Bed_knit (s :: tailN 5 [(dK r a y).D]) = .er "Empty" := by
  have hf : flat (lk b (r, a)) = true := by rw [hl]; exact flat_tI []
  unfold b_Bed_knit
  refine ev_seqK (R1 := .ok .nx [s, .sh (dK r a y).D, .sh (.key r a), .no, .no]) (ev_set (ev_key (ev_cons (ev_bin (ev_var rfl) ev_c rfl rfl rfl) (ev_cons (ev_bin (ev_var rfl) ev_c rfl rfl rfl) ev_nil)) rfl) rfl) (seqK_nx ?_)
  refine ev_seqK (R1 := .ok .nx [s, .sh (dK r a y).D, .sh (.key r a), .sh (tI []), .no]) ((ev_set (la (q := (r, a)) (hs _) rfl hf) rfl).trans (by rw [hl]; rfl)) (seqK_nx ?_)
  refine ev_seqK (ev_if (ev_notT (ev_tru (ds := []) (ev_var rfl) rfl)) (ev_iteT rfl (ev_raise ?_))) seqK_er
  change (true && (okT 1 _ && true)) = true
  rw [okT_deed hd rfl]
  rfl
theorem bed_sl (b : Bd) : ∀ rest, bedAt (b.sl :: rest) 0 = some (b, true) := fun _ => rfl
theorem bed_sh (b : Bd) : ∀ rest, bedAt (.sh b.d :: rest) 0 = some (b, false) := fun _ => rfl
theorem tuck_ok (hl : lk b (r, a) = tI l) (h4 : l.length < 4) (hk : b.ks.length < 10000) (ha : b.as.length < 10000) (hb : b.bs.length < 10000) : m_Bed_tuck b [(dT r a y).D] =
    .ok (.int (b.as.length : Int)) ⟨putKs b.ks (r, a), putVs b.ks b.vs (r, a) (tI (l ++ [(b.as.length : Int)])), b.as ++ [lpD (y, "t", [])], b.bs ++ [.tup [(dT r a y).D, .lst [.tup [.key r a, tI l]]]]⟩ := by
  have hf : flat (lk b (r, a)) = true := by rw [hl]; exact flat_tI l
  have hz : ∀ {n : Nat}, n < 10000 → n < sizeLine := fun h => by unfold sizeLine; omega
  refine ev_runWX ?_
  unfold b_Bed_tuck
  refine ev_runWrt (δ1 := [.ob (putKs b.ks (r, a)) (putVs b.ks b.vs (r, a) (tI (l ++ [(b.as.length : Int)]))) (b.as ++ [lpD (y, "t", [])]) (b.bs ++ [.tup [(dT r a y).D, .lst [.tup [.key r a, tI l]]]]), .sh (dT r a y).D, .sh (.key r a), .sh (tI l), .sh (.int (b.as.length : Int))]) ?_ rfl
  refine ev_seqK (R1 := .ok .nx [b.sl, .sh (dT r a y).D, .sh (.key r a), .no, .no]) (ev_set (ev_key (ev_cons (ev_bin (ev_var rfl) ev_c rfl rfl rfl) (ev_cons (ev_bin (ev_var rfl) ev_c rfl rfl rfl) ev_nil)) rfl) rfl) (seqK_nx ?_)
  refine ev_seqK (R1 := .ok .nx [b.sl, .sh (dT r a y).D, .sh (.key r a), .sh (tI l), .no]) ((ev_set (la (q := (r, a)) (bed_sl b _) rfl hf) rfl).trans (by rw [hl]; rfl)) (seqK_nx ?_)
  refine ev_seqK (ev_if (ev_test (ev_bin (ev_cb (ev_cons (ev_var rfl) ev_nil) rfl (len_tI l)) ev_c rfl rfl rfl) rfl) (ev_iteF (decide_eq_false (by omega)) ev_next)) (seqK_nx ?_)
  have k1 : fCallW 0 3 (fCons (fVar 1) (fCons (fLst (fCons (fVar 2) fNil)) fNil)) m_Bed_keep [b.sl, .sh (dT r a y).D, .sh (.key r a), .sh (tI l), .no] = .ok (.val .non) [.ob b.ks b.vs b.as (b.bs ++ [.tup [(dT r a y).D, .lst [.tup [.key r a, tI l]]]]), .sh (dT r a y).D, .sh (.key r a), .sh (tI l), .no] :=
    ev_callW (b := b) (own := true) (ev_cons (ev_var rfl) (ev_cons (ev_lst (ev_cons (ev_var rfl) ev_nil) rfl (by change 1 ≤ sizeLine; unfold sizeLine; omega)) ev_nil)) rfl rfl rfl (by
      change rwW 0 true (m_Bed_keep b [(dT r a y).D, .lst [.key r a]]) _ = _
      rw [keep1 b _ r a l hl (hz hb)]
      rfl)
  have k2 : fCallW 0 4 (fCons (fBin (fVar 1) (fC (.int 3)) gIx) (fCons (fC (.str "t")) (fCons (fTup fNil) fNil))) m_Bed_new_loop [.ob b.ks b.vs b.as (b.bs ++ [.tup [(dT r a y).D, .lst [.tup [.key r a, tI l]]]]), .sh (dT r a y).D, .sh (.key r a), .sh (tI l), .no] = .ok (.val (.int (b.as.length : Int))) [.ob b.ks b.vs (b.as ++ [lpD (y, "t", [])]) (b.bs ++ [.tup [(dT r a y).D, .lst [.tup [.key r a, tI l]]]]), .sh (dT r a y).D, .sh (.key r a), .sh (tI l), .no] :=
    ev_callW (b := ⟨b.ks, b.vs, b.as, (b.bs ++ [.tup [(dT r a y).D, .lst [.tup [.key r a, tI l]]]])⟩) (own := true) (ev_cons (ev_bin (ev_var rfl) ev_c rfl rfl rfl) (ev_cons ev_c (ev_cons (ev_tup ev_nil rfl (by change 0 ≤ sizeLine; unfold sizeLine; omega)) ev_nil))) rfl rfl rfl (by
      change rwW 0 true (m_Bed_new_loop ⟨b.ks, b.vs, b.as, (b.bs ++ [.tup [(dT r a y).D, .lst [.tup [.key r a, tI l]]]])⟩ [.str y, .str "t", .tup []]) _ = _
      have nl := new_loop_ok (⟨b.ks, b.vs, b.as, (b.bs ++ [.tup [(dT r a y).D, .lst [.tup [.key r a, tI l]]]])⟩ : Bd) (.str y) (.str "t") (.tup []) (hz ha)
      rw [nl]
      rfl)
  have k3 : fBin (fVar 3) (fTup (fCons (fVar 4) fNil)) gAddT [.ob b.ks b.vs (b.as ++ [lpD (y, "t", [])]) (b.bs ++ [.tup [(dT r a y).D, .lst [.tup [.key r a, tI l]]]]), .sh (dT r a y).D, .sh (.key r a), .sh (tI l), .sh (.int (b.as.length : Int))] = .ok (.val (tI (l ++ [(b.as.length : Int)]))) [.ob b.ks b.vs (b.as ++ [lpD (y, "t", [])]) (b.bs ++ [.tup [(dT r a y).D, .lst [.tup [.key r a, tI l]]]]), .sh (dT r a y).D, .sh (.key r a), .sh (tI l), .sh (.int (b.as.length : Int))] :=
    ev_bin (ev_var rfl) (ev_tup (ev_cons (ev_var rfl) ev_nil) rfl (by change 1 ≤ sizeLine; unfold sizeLine; omega)) rfl rfl (by
      change (if (iD l).length + 1 ≤ sizeLine then some (DV.val (.tup (iD l ++ [.int (b.as.length : Int)]))) else none) = some (.val (tI (l ++ [(b.as.length : Int)])))
      rw [if_pos (by rw [iD_len]; unfold sizeLine; omega), tI, iD_app]
      rfl)
  refine ev_seqK (ev_drp k1) (seqK_nx (ev_seqK (ev_set k2 rfl) (seqK_nx (ev_seqK (ev_bput (i := 0) k3 rfl rfl (ev_var rfl) rfl (hz hk)) (seqK_nx ?_)))))
  exact ev_retK (ev_var rfl) retK_val
theorem knit_ok {w : Str} (hw : gTabIxS c_WAYS (.str r) = some (.val (.str w))) (hl : lk b (r, a) = tI l) (h0 : l ≠ []) (hk : b.ks.length < 10000) (ha : b.as.length < 10000) (hb : b.bs.length < 10000) : m_Bed_knit b [(dK r a y).D] =
    .ok (.int (b.as.length : Int)) ⟨putKs b.ks (r, a), putVs b.ks b.vs (r, a) (tI [(b.as.length : Int)]), b.as ++ [lpD (y, w, l)], b.bs ++ [.tup [(dK r a y).D, .lst [.tup [.key r a, tI l]]]]⟩ := by
  have hf : flat (lk b (r, a)) = true := by rw [hl]; exact flat_tI l
  have hz : ∀ {n : Nat}, n < 10000 → n < sizeLine := fun h => by unfold sizeLine; omega
  have he : (iD l).isEmpty = false := by cases l with | nil => exact absurd rfl h0 | cons _ _ => rfl
  refine ev_runWX ?_
  unfold b_Bed_knit
  refine ev_runWrt (δ1 := [.ob (putKs b.ks (r, a)) (putVs b.ks b.vs (r, a) (tI [(b.as.length : Int)])) (b.as ++ [lpD (y, w, l)]) (b.bs ++ [.tup [(dK r a y).D, .lst [.tup [.key r a, tI l]]]]), .sh (dK r a y).D, .sh (.key r a), .sh (tI l), .sh (.int (b.as.length : Int))]) ?_ rfl
  refine ev_seqK (R1 := .ok .nx [b.sl, .sh (dK r a y).D, .sh (.key r a), .no, .no]) (ev_set (ev_key (ev_cons (ev_bin (ev_var rfl) ev_c rfl rfl rfl) (ev_cons (ev_bin (ev_var rfl) ev_c rfl rfl rfl) ev_nil)) rfl) rfl) (seqK_nx ?_)
  refine ev_seqK (R1 := .ok .nx [b.sl, .sh (dK r a y).D, .sh (.key r a), .sh (tI l), .no]) ((ev_set (la (q := (r, a)) (bed_sl b _) rfl hf) rfl).trans (by rw [hl]; rfl)) (seqK_nx ?_)
  refine ev_seqK (ev_if (ev_notT (ev_tru (ds := iD l) (ev_var rfl) rfl)) (ev_iteF (by rw [he]; rfl) ev_next)) (seqK_nx ?_)
  have k1 : fCallW 0 3 (fCons (fVar 1) (fCons (fLst (fCons (fVar 2) fNil)) fNil)) m_Bed_keep [b.sl, .sh (dK r a y).D, .sh (.key r a), .sh (tI l), .no] = .ok (.val .non) [.ob b.ks b.vs b.as (b.bs ++ [.tup [(dK r a y).D, .lst [.tup [.key r a, tI l]]]]), .sh (dK r a y).D, .sh (.key r a), .sh (tI l), .no] :=
    ev_callW (b := b) (own := true) (ev_cons (ev_var rfl) (ev_cons (ev_lst (ev_cons (ev_var rfl) ev_nil) rfl (by change 1 ≤ sizeLine; unfold sizeLine; omega)) ev_nil)) rfl rfl rfl (by
      change rwW 0 true (m_Bed_keep b [(dK r a y).D, .lst [.key r a]]) _ = _
      rw [keep1 b _ r a l hl (hz hb)]
      rfl)
  have k2 : fCallW 0 4 (fCons (fBin (fVar 1) (fC (.int 3)) gIx) (fCons (fUn (fBin (fVar 1) (fC (.int 1)) gIx) (gTabIxS c_WAYS)) (fCons (fVar 3) fNil))) m_Bed_new_loop [.ob b.ks b.vs b.as (b.bs ++ [.tup [(dK r a y).D, .lst [.tup [.key r a, tI l]]]]), .sh (dK r a y).D, .sh (.key r a), .sh (tI l), .no] = .ok (.val (.int (b.as.length : Int))) [.ob b.ks b.vs (b.as ++ [lpD (y, w, l)]) (b.bs ++ [.tup [(dK r a y).D, .lst [.tup [.key r a, tI l]]]]), .sh (dK r a y).D, .sh (.key r a), .sh (tI l), .no] :=
    ev_callW (b := ⟨b.ks, b.vs, b.as, (b.bs ++ [.tup [(dK r a y).D, .lst [.tup [.key r a, tI l]]]])⟩) (own := true) (ev_cons (ev_bin (ev_var rfl) ev_c rfl rfl rfl) (ev_cons (ev_un (ev_bin (ev_var rfl) ev_c rfl rfl rfl) rfl hw) (ev_cons (ev_var rfl) ev_nil))) rfl rfl rfl (by
      change rwW 0 true (m_Bed_new_loop ⟨b.ks, b.vs, b.as, (b.bs ++ [.tup [(dK r a y).D, .lst [.tup [.key r a, tI l]]]])⟩ [.str y, .str w, tI l]) _ = _
      have nl := new_loop_ok (⟨b.ks, b.vs, b.as, (b.bs ++ [.tup [(dK r a y).D, .lst [.tup [.key r a, tI l]]]])⟩ : Bd) (.str y) (.str w) (tI l) (hz ha)
      rw [nl]
      rfl)
  refine ev_seqK (ev_drp k1) (seqK_nx (ev_seqK (ev_set k2 rfl) (seqK_nx (ev_seqK (ev_bput (i := 0) (ev_tup (ev_cons (ev_var rfl) ev_nil) rfl (by change 1 ≤ sizeLine; unfold sizeLine; omega)) rfl rfl (ev_var rfl) rfl (hz hk)) (seqK_nx ?_)))))
  exact ev_retK (ev_var rfl) retK_val
end
end Lw
namespace Lw
open PySem L2 DL
theorem across_ok {r : Str} (h : RowOk r) : gTabIxS c_ACROSS (.str r) = some (.val (.str (other r))) := by
  rcases h with rfl | rfl <;> kernel_rfl
theorem ways_row {r : Str} (h : RowOk r) : gTabIxS c_WAYS (.str r) = some (.val (.str (if r = Str.ofString "f" then Str.ofString "k" else Str.ofString "p"))) := by
  rcases h with rfl | rfl <;> kernel_rfl
theorem abs_gt (x : Int) : DL.gt (if x < 0 then -x else x) 2 = decide (x > 2 ∨ -x > 2) := by
  unfold DL.gt
  by_cases h : x > 2 ∨ -x > 2
  · rw [decide_eq_true h]; exact decide_eq_true (by split <;> omega)
  · rw [decide_eq_false h]; exact decide_eq_false (by split <;> omega)
section
variable {s : Sl} {b : Bd} {own : Bool} {r : Str} {a t : Int} {l m : List Int}
theorem move_far (hd : (Dd.mv r a t).ok) (h2 : a - t > 2 ∨ t - a > 2) : b_Bed_move (s :: tailN 6 [(Dd.mv r a t).D]) = .er "TooFar" := by
  unfold b_Bed_move
  refine ev_seqK (R1 := .ok .nx [s, .sh (Dd.mv r a t).D, .sh (.key r a), .no, .no, .no]) (ev_set (ev_key (ev_cons (ev_bin (ev_var rfl) ev_c rfl rfl rfl) (ev_cons (ev_bin (ev_var rfl) ev_c rfl rfl rfl) ev_nil)) rfl) rfl) (seqK_nx ?_)
  refine ev_seqK (R1 := .ok .nx [s, .sh (Dd.mv r a t).D, .sh (.key r a), .sh (.key (other r) t), .no, .no]) (ev_set (ev_key (ev_cons (ev_un (ev_bin (ev_var rfl) ev_c rfl rfl rfl) rfl (across_ok hd.1)) (ev_cons (ev_bin (ev_var rfl) ev_c rfl rfl rfl) ev_nil)) rfl) rfl) (seqK_nx ?_)
  refine ev_seqK (ev_if (ev_test (ev_bin (ev_cb (ev_cons (ev_bin (ev_bin (ev_var rfl) ev_c rfl rfl rfl) (ev_bin (ev_var rfl) ev_c rfl rfl rfl) rfl rfl rfl) ev_nil) rfl rfl) ev_c rfl rfl rfl) rfl) (ev_iteT ((abs_gt (a - t)).trans (decide_eq_true (by omega))) (ev_raise ?_))) seqK_er
  change (true && (true && (true && (okT 1 _ && true)))) = true
  rw [okT_deed hd rfl]
  rfl
theorem move_empty (hs : ∀ rest, bedAt (s :: rest) 0 = some (b, own)) (hd : (Dd.mv r a t).ok) (h2 : ¬ (a - t > 2 ∨ t - a > 2)) (hl : lk b (r, a) = tI []) : b_Bed_move (s :: tailN 6 [(Dd.mv r a t).D]) = .er "Empty" := by
  have hf : flat (lk b (r, a)) = true := by rw [hl]; exact flat_tI []
  unfold b_Bed_move
  refine ev_seqK (R1 := .ok .nx [s, .sh (Dd.mv r a t).D, .sh (.key r a), .no, .no, .no]) (ev_set (ev_key (ev_cons (ev_bin (ev_var rfl) ev_c rfl rfl rfl) (ev_cons (ev_bin (ev_var rfl) ev_c rfl rfl rfl) ev_nil)) rfl) rfl) (seqK_nx ?_)
  refine ev_seqK (R1 := .ok .nx [s, .sh (Dd.mv r a t).D, .sh (.key r a), .sh (.key (other r) t), .no, .no]) (ev_set (ev_key (ev_cons (ev_un (ev_bin (ev_var rfl) ev_c rfl rfl rfl) rfl (across_ok hd.1)) (ev_cons (ev_bin (ev_var rfl) ev_c rfl rfl rfl) ev_nil)) rfl) rfl) (seqK_nx ?_)
  refine ev_seqK (ev_if (ev_test (ev_bin (ev_cb (ev_cons (ev_bin (ev_bin (ev_var rfl) ev_c rfl rfl rfl) (ev_bin (ev_var rfl) ev_c rfl rfl rfl) rfl rfl rfl) ev_nil) rfl rfl) ev_c rfl rfl rfl) rfl) (ev_iteF ((abs_gt (a - t)).trans (decide_eq_false (by omega))) ev_next)) (seqK_nx ?_)
  refine ev_seqK (R1 := .ok .nx [s, .sh (Dd.mv r a t).D, .sh (.key r a), .sh (.key (other r) t), .sh (tI []), .no]) ((ev_set (la (q := (r, a)) (hs _) rfl hf) rfl).trans (by rw [hl]; rfl)) (seqK_nx ?_)
  refine ev_seqK (ev_if (ev_notT (ev_tru (ds := []) (ev_var rfl) rfl)) (ev_iteT rfl (ev_raise ?_))) seqK_er
  change (true && (okT 1 _ && true)) = true
  rw [okT_deed hd rfl]
  rfl
theorem add_tI (m l : List Int) (h : m.length + l.length ≤ 100) : gAddT (tI m) (tI l) = some (.val (tI (m ++ l))) := by
  change (if (iD m).length + (iD l).length ≤ sizeLine then some (DV.val (.tup (iD m ++ iD l))) else none) = _
  rw [if_pos (by rw [iD_len, iD_len]; unfold sizeLine; omega), tI, iD_app]
theorem move_full (hs : ∀ rest, bedAt (s :: rest) 0 = some (b, own)) (hd : (Dd.mv r a t).ok) (h2 : ¬ (a - t > 2 ∨ t - a > 2)) (hl : lk b (r, a) = tI l) (h0 : l ≠ []) (hm : lk b (other r, t) = tI m) (h4 : m.length + l.length > 4) (h5 : m.length + l.length ≤ 100) : b_Bed_move (s :: tailN 6 [(Dd.mv r a t).D]) = .er "Overfull" := by
  have hf : flat (lk b (r, a)) = true := by rw [hl]; exact flat_tI l
  have hg : flat (lk b (other r, t)) = true := by rw [hm]; exact flat_tI m
  have he : (iD l).isEmpty = false := by cases l with | nil => exact absurd rfl h0 | cons _ _ => rfl
  unfold b_Bed_move
  refine ev_seqK (R1 := .ok .nx [s, .sh (Dd.mv r a t).D, .sh (.key r a), .no, .no, .no]) (ev_set (ev_key (ev_cons (ev_bin (ev_var rfl) ev_c rfl rfl rfl) (ev_cons (ev_bin (ev_var rfl) ev_c rfl rfl rfl) ev_nil)) rfl) rfl) (seqK_nx ?_)
  refine ev_seqK (R1 := .ok .nx [s, .sh (Dd.mv r a t).D, .sh (.key r a), .sh (.key (other r) t), .no, .no]) (ev_set (ev_key (ev_cons (ev_un (ev_bin (ev_var rfl) ev_c rfl rfl rfl) rfl (across_ok hd.1)) (ev_cons (ev_bin (ev_var rfl) ev_c rfl rfl rfl) ev_nil)) rfl) rfl) (seqK_nx ?_)
  refine ev_seqK (ev_if (ev_test (ev_bin (ev_cb (ev_cons (ev_bin (ev_bin (ev_var rfl) ev_c rfl rfl rfl) (ev_bin (ev_var rfl) ev_c rfl rfl rfl) rfl rfl rfl) ev_nil) rfl rfl) ev_c rfl rfl rfl) rfl) (ev_iteF ((abs_gt (a - t)).trans (decide_eq_false (by omega))) ev_next)) (seqK_nx ?_)
  refine ev_seqK (R1 := .ok .nx [s, .sh (Dd.mv r a t).D, .sh (.key r a), .sh (.key (other r) t), .sh (tI l), .no]) ((ev_set (la (q := (r, a)) (hs _) rfl hf) rfl).trans (by rw [hl]; rfl)) (seqK_nx ?_)
  refine ev_seqK (ev_if (ev_notT (ev_tru (ds := iD l) (ev_var rfl) rfl)) (ev_iteF (by rw [he]; rfl) ev_next)) (seqK_nx ?_)
  refine ev_seqK (R1 := .ok .nx [s, .sh (Dd.mv r a t).D, .sh (.key r a), .sh (.key (other r) t), .sh (tI l), .sh (tI (m ++ l))]) (ev_set (ev_bin (la (q := (other r, t)) (hs _) rfl hg) (ev_var rfl) (congrArg some hm) rfl (add_tI m l h5)) rfl) (seqK_nx ?_)
  refine ev_seqK (ev_if (ev_test (ev_bin (ev_cb (ev_cons (ev_var rfl) ev_nil) rfl (len_tI _)) ev_c rfl rfl rfl) rfl) (ev_iteT (decide_eq_true (by rw [List.length_append]; omega)) (ev_raise ?_))) seqK_er
  change (true && (okT 1 _ && true)) = true
  rw [okT_deed hd rfl]
  rfl
theorem move_ok (hd : (Dd.mv r a t).ok) (h2 : ¬ (a - t > 2 ∨ t - a > 2)) (hl : lk b (r, a) = tI l) (h0 : l ≠ []) (hm : lk b (other r, t) = tI m) (h4 : m.length + l.length ≤ 4) (hk : b.ks.length < 10000) (hb : b.bs.length < 10000) : m_Bed_move b [(Dd.mv r a t).D] =
    .ok .non ⟨putKs (putKs b.ks (r, a)) (other r, t), putVs (putKs b.ks (r, a)) (putVs b.ks b.vs (r, a) (tI [])) (other r, t) (tI (m ++ l)), b.as, (b.bs ++ [.tup [(Dd.mv r a t).D, .lst [.tup [.key r a, tI l], .tup [.key (other r) t, tI m]]]])⟩ := by
  have hf : flat (lk b (r, a)) = true := by rw [hl]; exact flat_tI l
  have hg : flat (lk b (other r, t)) = true := by rw [hm]; exact flat_tI m
  have he : (iD l).isEmpty = false := by cases l with | nil => exact absurd rfl h0 | cons _ _ => rfl
  have hz : ∀ {n : Nat}, n < 10001 → n < sizeLine := fun h => by unfold sizeLine; omega
  have hk2 : (putKs b.ks (r, a)).length < 10001 := by
    unfold putKs
    split
    · omega
    · rw [List.length_append]; change _ + 1 < _; omega
  refine ev_runWX ?_
  unfold b_Bed_move
  refine ev_runWrt (δ1 := [.ob (putKs (putKs b.ks (r, a)) (other r, t)) (putVs (putKs b.ks (r, a)) (putVs b.ks b.vs (r, a) (tI [])) (other r, t) (tI (m ++ l))) b.as (b.bs ++ [.tup [(Dd.mv r a t).D, .lst [.tup [.key r a, tI l], .tup [.key (other r) t, tI m]]]]), .sh (Dd.mv r a t).D, .sh (.key r a), .sh (.key (other r) t), .sh (tI l), .sh (tI (m ++ l))]) ?_ rfl
  refine ev_seqK (R1 := .ok .nx [b.sl, .sh (Dd.mv r a t).D, .sh (.key r a), .no, .no, .no]) (ev_set (ev_key (ev_cons (ev_bin (ev_var rfl) ev_c rfl rfl rfl) (ev_cons (ev_bin (ev_var rfl) ev_c rfl rfl rfl) ev_nil)) rfl) rfl) (seqK_nx ?_)
  refine ev_seqK (R1 := .ok .nx [b.sl, .sh (Dd.mv r a t).D, .sh (.key r a), .sh (.key (other r) t), .no, .no]) (ev_set (ev_key (ev_cons (ev_un (ev_bin (ev_var rfl) ev_c rfl rfl rfl) rfl (across_ok hd.1)) (ev_cons (ev_bin (ev_var rfl) ev_c rfl rfl rfl) ev_nil)) rfl) rfl) (seqK_nx ?_)
  refine ev_seqK (ev_if (ev_test (ev_bin (ev_cb (ev_cons (ev_bin (ev_bin (ev_var rfl) ev_c rfl rfl rfl) (ev_bin (ev_var rfl) ev_c rfl rfl rfl) rfl rfl rfl) ev_nil) rfl rfl) ev_c rfl rfl rfl) rfl) (ev_iteF ((abs_gt (a - t)).trans (decide_eq_false (by omega))) ev_next)) (seqK_nx ?_)
  refine ev_seqK (R1 := .ok .nx [b.sl, .sh (Dd.mv r a t).D, .sh (.key r a), .sh (.key (other r) t), .sh (tI l), .no]) ((ev_set (la (q := (r, a)) (bed_sl b _) rfl hf) rfl).trans (by rw [hl]; rfl)) (seqK_nx ?_)
  refine ev_seqK (ev_if (ev_notT (ev_tru (ds := iD l) (ev_var rfl) rfl)) (ev_iteF (by rw [he]; rfl) ev_next)) (seqK_nx ?_)
  refine ev_seqK (R1 := .ok .nx [b.sl, .sh (Dd.mv r a t).D, .sh (.key r a), .sh (.key (other r) t), .sh (tI l), .sh (tI (m ++ l))]) (ev_set (ev_bin (la (q := (other r, t)) (bed_sl b _) rfl hg) (ev_var rfl) (congrArg some hm) rfl (add_tI m l (by omega))) rfl) (seqK_nx ?_)
  refine ev_seqK (ev_if (ev_test (ev_bin (ev_cb (ev_cons (ev_var rfl) ev_nil) rfl (len_tI _)) ev_c rfl rfl rfl) rfl) (ev_iteF (decide_eq_false (by rw [List.length_append]; omega)) ev_next)) (seqK_nx ?_)
  have k1 : fCallW 0 3 (fCons (fVar 1) (fCons (fLst (fCons (fVar 2) (fCons (fVar 3) fNil))) fNil)) m_Bed_keep [b.sl, .sh (Dd.mv r a t).D, .sh (.key r a), .sh (.key (other r) t), .sh (tI l), .sh (tI (m ++ l))] = .ok (.val .non) [.ob b.ks b.vs b.as (b.bs ++ [.tup [(Dd.mv r a t).D, .lst [.tup [.key r a, tI l], .tup [.key (other r) t, tI m]]]]), .sh (Dd.mv r a t).D, .sh (.key r a), .sh (.key (other r) t), .sh (tI l), .sh (tI (m ++ l))] :=
    ev_callW (b := b) (own := true) (ev_cons (ev_var rfl) (ev_cons (ev_lst (ev_cons (ev_var rfl) (ev_cons (ev_var rfl) ev_nil)) rfl (by change 2 ≤ sizeLine; unfold sizeLine; omega)) ev_nil)) rfl rfl rfl (by
      change rwW 0 true (m_Bed_keep b [(Dd.mv r a t).D, .lst [.key r a, .key (other r) t]]) _ = _
      rw [keep2 b _ r (other r) a t l m hl hm (hz (by omega))]
      rfl)
  refine ev_seqK (ev_drp k1) (seqK_nx (ev_seqK (ev_bput (i := 0) (ev_tup ev_nil rfl (by change 0 ≤ sizeLine; unfold sizeLine; omega)) rfl rfl (ev_var rfl) rfl (hz (by omega))) (seqK_nx (ev_seqK (ev_bput (i := 0) (ev_var rfl) rfl rfl (ev_var rfl) rfl (hz hk2)) (seqK_nx ?_)))))
  exact ev_retK ev_c retK_val
end
end Lw
namespace Lw
open PySem L2 DL
theorem eq_kk : gEq (.str (Str.ofString "knit")) (.str (Str.ofString "knit")) = some (.val (.bl true)) := by kernel_rfl
theorem eq_tk : gEq (.str (Str.ofString "tuck")) (.str (Str.ofString "knit")) = some (.val (.bl false)) := by kernel_rfl
theorem eq_tt : gEq (.str (Str.ofString "tuck")) (.str (Str.ofString "tuck")) = some (.val (.bl true)) := by kernel_rfl
theorem eq_mk : gEq (.str (Str.ofString "move")) (.str (Str.ofString "knit")) = some (.val (.bl false)) := by kernel_rfl
theorem eq_mt : gEq (.str (Str.ofString "move")) (.str (Str.ofString "tuck")) = some (.val (.bl false)) := by kernel_rfl
section
variable {b b' : Bd} {r : Str} {a t : Int} {y : Str} {x : D} {c : Str}
theorem act_knit (h : m_Bed_knit b [(dK r a y).D] = .ok x b') : m_Bed_act b [(dK r a y).D] = .ok x b' := by
  refine ev_runWX ?_
  unfold b_Bed_act
  refine ev_runWrt (δ1 := [b'.sl, .sh (dK r a y).D]) ?_ rfl
  exact ev_seqK (ev_if (ev_test (ev_bin (ev_bin (ev_var rfl) ev_c rfl rfl rfl) ev_c rfl rfl eq_kk) rfl) (ev_iteT rfl (ev_retK (ev_callW (b := b) (own := true) (ev_cons (ev_var rfl) ev_nil) rfl rfl rfl (by rw [h]; rfl)) retK_val))) seqK_rt
theorem act_tuck (h : m_Bed_tuck b [(dT r a y).D] = .ok x b') : m_Bed_act b [(dT r a y).D] = .ok x b' := by
  refine ev_runWX ?_
  unfold b_Bed_act
  refine ev_runWrt (δ1 := [b'.sl, .sh (dT r a y).D]) ?_ rfl
  exact ev_seqK (ev_if (ev_test (ev_bin (ev_bin (ev_var rfl) ev_c rfl rfl rfl) ev_c rfl rfl eq_tk) rfl) (ev_iteF rfl ev_next)) (seqK_nx (ev_seqK (ev_if (ev_test (ev_bin (ev_bin (ev_var rfl) ev_c rfl rfl rfl) ev_c rfl rfl eq_tt) rfl) (ev_iteT rfl (ev_retK (ev_callW (b := b) (own := true) (ev_cons (ev_var rfl) ev_nil) rfl rfl rfl (by rw [h]; rfl)) retK_val))) seqK_rt))
theorem act_move (h : m_Bed_move b [(Dd.mv r a t).D] = .ok x b') : m_Bed_act b [(Dd.mv r a t).D] = .ok x b' := by
  refine ev_runWX ?_
  unfold b_Bed_act
  refine ev_runWrt (δ1 := [b'.sl, .sh (Dd.mv r a t).D]) ?_ rfl
  exact ev_seqK (ev_if (ev_test (ev_bin (ev_bin (ev_var rfl) ev_c rfl rfl rfl) ev_c rfl rfl eq_mk) rfl) (ev_iteF rfl ev_next)) (seqK_nx (ev_seqK (ev_if (ev_test (ev_bin (ev_bin (ev_var rfl) ev_c rfl rfl rfl) ev_c rfl rfl eq_mt) rfl) (ev_iteF rfl ev_next)) (seqK_nx (ev_retK (ev_callW (b := b) (own := true) (ev_cons (ev_var rfl) ev_nil) rfl rfl rfl (by rw [h]; rfl)) retK_val))))
theorem act_knitX (h : m_Bed_knit b [(dK r a y).D] = .er c) : m_Bed_act b [(dK r a y).D] = .er c := by
  have g : ∀ (s : Sl) (own : Bool), (∀ rest, bedAt (s :: rest) 0 = some (b, own)) → b_Bed_act (s :: tailN 2 [(dK r a y).D]) = .er c := fun s own hs => by
    unfold b_Bed_act
    exact ev_seqK (ev_if (ev_test (ev_bin (ev_bin (ev_var rfl) ev_c rfl rfl rfl) ev_c rfl rfl eq_kk) rfl) (ev_iteT rfl (ev_retK (Z := .er c) (ev_callW (b := b) (own := own) (ev_cons (ev_var rfl) ev_nil) rfl (hs _) rfl (by rw [h]; rfl)) rfl))) seqK_er
  exact ev_runWXe (g _ _ (bed_sl b)) (g _ _ (bed_sh b))
theorem act_tuckX (h : m_Bed_tuck b [(dT r a y).D] = .er c) : m_Bed_act b [(dT r a y).D] = .er c := by
  have g : ∀ (s : Sl) (own : Bool), (∀ rest, bedAt (s :: rest) 0 = some (b, own)) → b_Bed_act (s :: tailN 2 [(dT r a y).D]) = .er c := fun s own hs => by
    unfold b_Bed_act
    exact ev_seqK (ev_if (ev_test (ev_bin (ev_bin (ev_var rfl) ev_c rfl rfl rfl) ev_c rfl rfl eq_tk) rfl) (ev_iteF rfl ev_next)) (seqK_nx (ev_seqK (ev_if (ev_test (ev_bin (ev_bin (ev_var rfl) ev_c rfl rfl rfl) ev_c rfl rfl eq_tt) rfl) (ev_iteT rfl (ev_retK (Z := .er c) (ev_callW (b := b) (own := own) (ev_cons (ev_var rfl) ev_nil) rfl (hs _) rfl (by rw [h]; rfl)) rfl))) seqK_er))
  exact ev_runWXe (g _ _ (bed_sl b)) (g _ _ (bed_sh b))
theorem act_moveX (h : m_Bed_move b [(Dd.mv r a t).D] = .er c) : m_Bed_act b [(Dd.mv r a t).D] = .er c := by
  have g : ∀ (s : Sl) (own : Bool), (∀ rest, bedAt (s :: rest) 0 = some (b, own)) → b_Bed_act (s :: tailN 2 [(Dd.mv r a t).D]) = .er c := fun s own hs => by
    unfold b_Bed_act
    exact ev_seqK (ev_if (ev_test (ev_bin (ev_bin (ev_var rfl) ev_c rfl rfl rfl) ev_c rfl rfl eq_mk) rfl) (ev_iteF rfl ev_next)) (seqK_nx (ev_seqK (ev_if (ev_test (ev_bin (ev_bin (ev_var rfl) ev_c rfl rfl rfl) ev_c rfl rfl eq_mt) rfl) (ev_iteF rfl ev_next)) (seqK_nx (ev_retK (Z := .er c) (ev_callW (b := b) (own := own) (ev_cons (ev_var rfl) ev_nil) rfl (hs _) rfl (by rw [h]; rfl)) rfl))))
  exact ev_runWXe (g _ _ (bed_sl b)) (g _ _ (bed_sh b))
end
section
variable {q q' : Str × Int} {d : D}
theorem look_repl_ne (hq : q ≠ q') : ∀ (ks : List (Str × Int)) (vs : List D), lookB ks (replB ks vs q d) q' = lookB ks vs q'
  | [], _ => rfl
  | _ :: _, [] => rfl
  | k :: ks, v :: vs => by
    change (if k = q' then some (if k = q then d else v) else lookB ks (replB ks vs q d) q') = if k = q' then some v else lookB ks vs q'
    by_cases h : k = q'
    · rw [if_pos h, if_pos h, if_neg (fun z => hq (z.symm.trans h))]
    · rw [if_neg h, if_neg h, look_repl_ne hq ks vs]
theorem look_repl_eq : ∀ (ks : List (Str × Int)) (vs : List D), ks.length = vs.length → q ∈ ks → lookB ks (replB ks vs q d) q = some d
  | [], _, _, h => by cases h
  | _ :: _, [], h, _ => by cases h
  | k :: ks, v :: vs, hl, hq => by
    change (if k = q then some (if k = q then d else v) else lookB ks (replB ks vs q d) q) = some d
    by_cases h : k = q
    · rw [if_pos h, if_pos h]
    · rw [if_neg h]
      rcases List.mem_cons.mp hq with z | z
      · exact absurd z.symm h
      · exact look_repl_eq ks vs (Nat.succ.inj hl) z
theorem look_app : ∀ (ks : List (Str × Int)) (vs : List D), ks.length = vs.length → q ∉ ks → lookB (ks ++ [q]) (vs ++ [d]) q' = if q = q' then some d else lookB ks vs q'
  | [], [], _, _ => rfl
  | [], _ :: _, h, _ => by cases h
  | _ :: _, [], h, _ => by cases h
  | k :: ks, v :: vs, hl, hq => by
    change (if k = q' then some v else lookB (ks ++ [q]) (vs ++ [d]) q') = if q = q' then some d else if k = q' then some v else lookB ks vs q'
    have hk : q ≠ k := fun z => hq (by rw [z]; exact List.mem_cons_self)
    by_cases h : k = q'
    · rw [if_pos h, if_pos h, if_neg (fun z => hk (z.trans h.symm))]
    · rw [if_neg h, if_neg h]
      exact look_app ks vs (Nat.succ.inj hl) fun z => hq (List.mem_cons_of_mem _ z)
theorem look_put {ks : List (Str × Int)} {vs : List D} (hl : ks.length = vs.length) : lookB (putKs ks q) (putVs ks vs q d) q' = if q = q' then some d else lookB ks vs q' := by
  unfold putKs putVs
  by_cases h : q ∈ ks
  · rw [if_pos h, if_pos h]
    by_cases e : q = q'
    · subst e; rw [if_pos rfl]; exact look_repl_eq ks vs hl h
    · rw [if_neg e]; exact look_repl_ne e ks vs
  · rw [if_neg h, if_neg h]
    exact look_app ks vs hl h
theorem repl_len : ∀ (ks : List (Str × Int)) (vs : List D), (replB ks vs q d).length = vs.length
  | [], _ => rfl
  | _ :: _, [] => rfl
  | _ :: ks, _ :: vs => congrArg (· + 1) (repl_len ks vs)
theorem put_len {ks : List (Str × Int)} {vs : List D} (hl : ks.length = vs.length) : (putKs ks q).length = (putVs ks vs q d).length ∧ (putKs ks q).length ≤ ks.length + 1 := by
  unfold putKs putVs
  by_cases h : q ∈ ks
  · rw [if_pos h, if_pos h, repl_len]; exact ⟨hl, Nat.le_succ _⟩
  · rw [if_neg h, if_neg h, List.length_append, List.length_append, hl]; exact ⟨rfl, Nat.le_refl _⟩
theorem lk_put {b : Bd} {as bs : List D} (hl : b.ks.length = b.vs.length) : lk ⟨putKs b.ks q, putVs b.ks b.vs q d, as, bs⟩ q' = if q = q' then d else lk b q' := by
  unfold lk
  rw [look_put hl]
  split <;> rfl
end
theorem hAt_set {hs : List (List Int)} {i j : Int} {x : List Int} (h : i.toNat < hs.length) : hAt (hs.set i.toNat x) j = if i.toNat = j.toNat then x else hAt hs j := by
  unfold hAt
  rw [List.getD_eq_getElem?_getD, List.getD_eq_getElem?_getD]
  by_cases e : i.toNat = j.toNat
  · rw [if_pos e, ← e, List.getElem?_set_self h]; rfl
  · rw [if_neg e, List.getElem?_set_ne e]
theorem hk_inj {r r' : Str} {a a' : Int} (hr : RowOk r) (hr' : RowOk r') (h0 : 0 ≤ a) (h1 : a ≤ 15) (h0' : 0 ≤ a') (h1' : a' ≤ 15) : (hk r a).toNat = (hk r' a').toNat ↔ (r, a) = (r', a') := by
  have bf : ¬ Str.ofString "b" = Str.ofString "f" := by decide +kernel
  constructor
  · intro h
    rcases hr with rfl | rfl <;> rcases hr' with rfl | rfl
    · unfold hk at h; rw [if_pos rfl, if_pos rfl] at h; rw [show a = a' by omega]
    · unfold hk at h; rw [if_pos rfl, if_neg bf] at h; omega
    · unfold hk at h; rw [if_neg bf, if_pos rfl] at h; omega
    · unfold hk at h; rw [if_neg bf, if_neg bf] at h; rw [show a = a' by omega]
  · intro h
    injection h with h1 h2
    rw [h1, h2]
end Lw
namespace Lw
open PySem L2 DL
noncomputable abbrev stepD (d : Dd) (p : List D) : D := .tup [d.D, .lst p]
structure BS (hs : List (List Int)) (cl : List Lp) (ds : List Dd) (b : Bd) : Prop where
  lk : ∀ r a, RowOk r → 0 ≤ a → a ≤ 15 → lk b (r, a) = tI (hAt hs (hk r a))
  as : b.as = clD cl
  ps : ∃ ps : List (List D), ps.length = ds.length ∧ b.bs = List.zipWith stepD ds ps
  kl : b.ks.length = b.vs.length
  kn : b.ks.length ≤ 2 * ds.length
section
variable {hs : List (List Int)} {cl : List Lp} {ds : List Dd} {b : Bd} {d : Dd} {r : Str} {a t : Int} {l' m' : List Int} {e : List Lp} {p : List D}
theorem BS.snoc (B : BS hs cl ds b) : ∃ ps : List (List D), ps.length = (ds ++ [d]).length ∧ b.bs ++ [stepD d p] = List.zipWith stepD (ds ++ [d]) ps := by
  obtain ⟨ps, h1, h2⟩ := B.ps
  refine ⟨ps ++ [p], by rw [List.length_append, List.length_append, h1]; rfl, ?_⟩
  rw [h2, List.zipWith_append h1.symm]
  rfl
theorem BS.put1 (B : BS hs cl ds b) (h32 : hs.length = 32) (hr : RowOk r) (h0 : 0 ≤ a) (h1 : a ≤ 15) : BS (hs.set (hk r a).toNat l') (cl ++ e) (ds ++ [d]) ⟨putKs b.ks (r, a), putVs b.ks b.vs (r, a) (tI l'), b.as ++ clD e, b.bs ++ [stepD d p]⟩ where
  lk := fun r' a' hr' h0' h1' => by
    have hb := hk_lt (r := r) h0 h1
    rw [lk_put B.kl, hAt_set (by omega)]
    by_cases q : (r, a) = (r', a')
    · rw [if_pos q, if_pos ((hk_inj hr hr' h0 h1 h0' h1').mpr q)]
    · rw [if_neg q, if_neg (fun z => q ((hk_inj hr hr' h0 h1 h0' h1').mp z))]
      exact B.lk r' a' hr' h0' h1'
  as := by change b.as ++ clD e = _; rw [B.as, clD_app]
  ps := B.snoc
  kl := (put_len B.kl).1
  kn := by
    have := (put_len (q := (r, a)) (d := tI l') B.kl).2
    have := B.kn
    change (putKs b.ks (r, a)).length ≤ _
    rw [List.length_append]
    change _ ≤ 2 * (ds.length + 1)
    omega
theorem BS.put2 (B : BS hs cl ds b) (h32 : hs.length = 32) (hr : RowOk r) (h0 : 0 ≤ a) (h1 : a ≤ 15) (h2 : 0 ≤ t) (h3 : t ≤ 15) (hne : other r ≠ r) : BS ((hs.set (hk (other r) t).toNat m').set (hk r a).toNat []) cl (ds ++ [d])
    ⟨putKs (putKs b.ks (r, a)) (other r, t), putVs (putKs b.ks (r, a)) (putVs b.ks b.vs (r, a) (tI [])) (other r, t) (tI m'), b.as, b.bs ++ [stepD d p]⟩ where
  lk := fun r' a' hr' h0' h1' => by
    have hb := hk_lt (r := r) h0 h1
    have hb2 := hk_lt (r := other r) h2 h3
    have k1 := put_len (q := (r, a)) (d := tI []) B.kl
    have e1 := lk_put (b := ⟨putKs b.ks (r, a), putVs b.ks b.vs (r, a) (tI []), b.as, b.bs⟩) (q := (other r, t)) (q' := (r', a')) (d := tI m') (as := b.as) (bs := b.bs ++ [stepD d p]) k1.1
    have e2 := lk_put (b := b) (q := (r, a)) (q' := (r', a')) (d := tI []) (as := b.as) (bs := b.bs) B.kl
    refine e1.trans ?_
    rw [e2, hAt_set (by rw [List.length_set]; omega), hAt_set (by omega)]
    by_cases q : (other r, t) = (r', a')
    · have q2 : ¬ (r, a) = (r', a') := fun z => hne (congrArg Prod.fst (q.trans z.symm))
      rw [if_pos q, if_neg (fun z => q2 ((hk_inj hr hr' h0 h1 h0' h1').mp z)), if_pos ((hk_inj (other_ok r) hr' h2 h3 h0' h1').mpr q)]
    · rw [if_neg q, if_neg (c := (hk (other r) t).toNat = (hk r' a').toNat) (fun z => q ((hk_inj (other_ok r) hr' h2 h3 h0' h1').mp z))]
      by_cases q2 : (r, a) = (r', a')
      · rw [if_pos q2, if_pos ((hk_inj hr hr' h0 h1 h0' h1').mpr q2)]
      · rw [if_neg q2, if_neg (fun z => q2 ((hk_inj hr hr' h0 h1 h0' h1').mp z))]
        exact B.lk r' a' hr' h0' h1'
  as := B.as
  ps := B.snoc
  kl := (put_len (put_len B.kl).1).1
  kn := by
    have k1 := put_len (q := (r, a)) (d := tI []) B.kl
    have k2 := (put_len (q := (other r, t)) (d := tI m') k1.1).2
    have := B.kn
    change (putKs (putKs b.ks (r, a)) (other r, t)).length ≤ _
    rw [List.length_append]
    change _ ≤ 2 * (ds.length + 1)
    omega
end
theorem BS.start : BS (List.replicate 32 []) [] [] ⟨[], [], [], []⟩ where
  lk := fun r a _ _ _ => by
    have : hAt (List.replicate 32 []) (hk r a) = [] := by
      unfold hAt
      rw [List.getD_eq_getElem?_getD, List.getElem?_replicate]
      split <;> rfl
    rw [this]
    rfl
  as := rfl
  ps := ⟨[], rfl, rfl⟩
  kl := rfl
  kn := Nat.zero_le _
noncomputable def excOf (w : Str) : Str := if w = Str.ofString "far" then "TooFar" else if w = Str.ofString "empty" then "Empty" else "Overfull"
theorem exc_far : excOf (Str.ofString "far") = "TooFar" := if_pos rfl
theorem exc_empty : excOf (Str.ofString "empty") = "Empty" := by decide +kernel
theorem exc_full : excOf (Str.ofString "full") = "Overfull" := by decide +kernel
noncomputable def ansF (cl : List Lp) : Dd → D
  | .ky _ _ _ _ => .int (cl.length : Int)
  | .mv _ _ _ => .non
theorem other_ne {r : Str} (h : RowOk r) : other r ≠ r := by
  rcases h with rfl | rfl <;> decide +kernel
theorem kt_ne : ¬ Str.ofString "knit" = Str.ofString "tuck" := by decide +kernel
theorem tk_ne : ¬ Str.ofString "tuck" = Str.ofString "knit" := by decide +kernel
theorem act_step {hs : List (List Int)} {cl : List Lp} {ds : List Dd} {b : Bd} {d : Dd} (B : BS hs cl ds b) (h32 : hs.length = 32) (h4 : ∀ l ∈ hs, l.length ≤ 4) (hc : cl.length < 1000) (hn : ds.length < 1000) (hd : d.ok) :
    (wordF hs d = none → ∃ b', m_Bed_act b [d.D] = .ok (ansF cl d) b' ∧ BS (doF hs cl d).1 (doF hs cl d).2 (ds ++ [d]) b') ∧ (∀ w, wordF hs d = some w → m_Bed_act b [d.D] = .er (excOf w)) := by
  have hk1 : b.ks.length < 10000 := by have := B.kn; omega
  have hlen : b.as.length = cl.length := by rw [B.as, clD_len]
  have ha1 : b.as.length < 10000 := by omega
  have hb1 : b.bs.length < 10000 := by
    obtain ⟨ps, h1, h2⟩ := B.ps
    rw [h2, List.length_zipWith, h1]
    omega
  cases d with
  | ky k r a y =>
    obtain ⟨hk, hr, h0, h1, hy⟩ := id hd
    have hbk := hk_lt (r := r) h0 h1
    have hl := B.lk r a hr h0 h1
    have hm := h4 _ (hAt_mem (hs := hs) (i := Lw.hk r a) (by omega))
    generalize hL : hAt hs (Lw.hk r a) = l at *
    rcases hk with rfl | rfl
    · by_cases e : l = []
      · have hw : wordF hs (dK r a y) = some (Str.ofString "empty") := by
          change (if Str.ofString "knit" = Str.ofString "knit" ∧ hAt hs (Lw.hk r a) = [] then some (Str.ofString "empty") else if Str.ofString "knit" = Str.ofString "tuck" ∧ (hAt hs (Lw.hk r a)).length = 4 then some (Str.ofString "full") else none) = _
          rw [if_pos ⟨rfl, by rw [hL, e]⟩]
        refine ⟨(fun z => by rw [hw] at z; cases z), fun w z => ?_⟩
        rw [hw] at z
        cases z
        rw [exc_empty]
        rw [e] at hl
        exact act_knitX (ev_runWXe (knit_empty (bed_sl b) hd hl) (knit_empty (bed_sh b) hd hl))
      · have hw : wordF hs (dK r a y) = none := by
          change (if Str.ofString "knit" = Str.ofString "knit" ∧ hAt hs (Lw.hk r a) = [] then some (Str.ofString "empty") else if Str.ofString "knit" = Str.ofString "tuck" ∧ (hAt hs (Lw.hk r a)).length = 4 then some (Str.ofString "full") else none) = _
          rw [if_neg (fun z => e (hL.symm.trans z.2)), if_neg (fun z => kt_ne z.1)]
        refine ⟨fun _ => ⟨_, act_knit ((knit_ok (ways_row hr) hl e hk1 ha1 hb1).trans (by rw [hlen]; rfl)), ?_⟩, (fun w z => by rw [hw] at z; cases z)⟩
        have hdo : doF hs cl (dK r a y) = (hs.set (Lw.hk r a).toNat [(cl.length : Int)], cl ++ [(y, if r = Str.ofString "f" then Str.ofString "k" else Str.ofString "p", l)]) := by
          change (if Str.ofString "knit" = Str.ofString "tuck" then (hs.set (Lw.hk r a).toNat (hAt hs (Lw.hk r a) ++ [(cl.length : Int)]), cl ++ [(y, Str.ofString "t", [])]) else (hs.set (Lw.hk r a).toNat [(cl.length : Int)], cl ++ [(y, if r = Str.ofString "f" then Str.ofString "k" else Str.ofString "p", hAt hs (Lw.hk r a))])) = _
          rw [if_neg kt_ne, hL]
        rw [hdo]
        exact B.put1 h32 hr h0 h1
    · by_cases e : l.length = 4
      · have hw : wordF hs (dT r a y) = some (Str.ofString "full") := by
          change (if Str.ofString "tuck" = Str.ofString "knit" ∧ hAt hs (Lw.hk r a) = [] then some (Str.ofString "empty") else if Str.ofString "tuck" = Str.ofString "tuck" ∧ (hAt hs (Lw.hk r a)).length = 4 then some (Str.ofString "full") else none) = _
          rw [if_neg (fun z => tk_ne z.1), if_pos ⟨rfl, by rw [hL, e]⟩]
        refine ⟨(fun z => by rw [hw] at z; cases z), fun w z => ?_⟩
        rw [hw] at z
        cases z
        rw [exc_full]
        exact act_tuckX (ev_runWXe (tuck_full (bed_sl b) hd hl (by omega)) (tuck_full (bed_sh b) hd hl (by omega)))
      · have hw : wordF hs (dT r a y) = none := by
          change (if Str.ofString "tuck" = Str.ofString "knit" ∧ hAt hs (Lw.hk r a) = [] then some (Str.ofString "empty") else if Str.ofString "tuck" = Str.ofString "tuck" ∧ (hAt hs (Lw.hk r a)).length = 4 then some (Str.ofString "full") else none) = _
          rw [if_neg (fun z => tk_ne z.1), if_neg (fun z => e (by rw [← hL]; exact z.2))]
        refine ⟨fun _ => ⟨_, act_tuck ((tuck_ok hl (by omega) hk1 ha1 hb1).trans (by rw [hlen]; rfl)), ?_⟩, (fun w z => by rw [hw] at z; cases z)⟩
        have hdo : doF hs cl (dT r a y) = (hs.set (Lw.hk r a).toNat (l ++ [(cl.length : Int)]), cl ++ [(y, Str.ofString "t", [])]) := by
          change (if Str.ofString "tuck" = Str.ofString "tuck" then (hs.set (Lw.hk r a).toNat (hAt hs (Lw.hk r a) ++ [(cl.length : Int)]), cl ++ [(y, Str.ofString "t", [])]) else (hs.set (Lw.hk r a).toNat [(cl.length : Int)], cl ++ [(y, if r = Str.ofString "f" then Str.ofString "k" else Str.ofString "p", hAt hs (Lw.hk r a))])) = _
          rw [if_pos rfl, hL]
        rw [hdo]
        exact B.put1 h32 hr h0 h1
  | mv r a t =>
    obtain ⟨hr, h0, h1, h2, h3⟩ := id hd
    have hbk := hk_lt (r := r) h0 h1
    have hbk2 := hk_lt (r := other r) h2 h3
    have hl := B.lk r a hr h0 h1
    have hg := B.lk (other r) t (other_ok r) h2 h3
    have hm := h4 _ (hAt_mem (hs := hs) (i := hk r a) (by omega))
    have hm2 := h4 _ (hAt_mem (hs := hs) (i := hk (other r) t) (by omega))
    by_cases f : a - t > 2 ∨ t - a > 2
    · have hw : wordF hs (.mv r a t) = some (Str.ofString "far") := if_pos f
      refine ⟨(fun z => by rw [hw] at z; cases z), fun w z => ?_⟩
      rw [hw] at z
      cases z
      rw [exc_far]
      exact act_moveX (ev_runWXe (move_far hd f) (move_far hd f))
    · by_cases e : hAt hs (hk r a) = []
      · have hw : wordF hs (.mv r a t) = some (Str.ofString "empty") := (if_neg f).trans (if_pos e)
        refine ⟨(fun z => by rw [hw] at z; cases z), fun w z => ?_⟩
        rw [hw] at z
        cases z
        rw [exc_empty]
        rw [e] at hl
        exact act_moveX (ev_runWXe (move_empty (bed_sl b) hd f hl) (move_empty (bed_sh b) hd f hl))
      · by_cases g : (hAt hs (hk r a)).length + (hAt hs (hk (other r) t)).length > 4
        · have hw : wordF hs (.mv r a t) = some (Str.ofString "full") := (if_neg f).trans ((if_neg e).trans (if_pos g))
          refine ⟨(fun z => by rw [hw] at z; cases z), fun w z => ?_⟩
          rw [hw] at z
          cases z
          rw [exc_full]
          exact act_moveX (ev_runWXe (move_full (bed_sl b) hd f hl e hg (by omega) (by omega)) (move_full (bed_sh b) hd f hl e hg (by omega) (by omega)))
        · have hw : wordF hs (.mv r a t) = none := (if_neg f).trans ((if_neg e).trans (if_neg g))
          refine ⟨fun _ => ⟨_, act_move (move_ok hd f hl e hg (by omega) hk1 hb1), ?_⟩, (fun w z => by rw [hw] at z; cases z)⟩
          exact B.put2 h32 hr h0 h1 h2 h3 (other_ne hr)
end Lw
namespace Lw
open PySem L2 DL
section
variable {hs : List (List Int)} {cl : List Lp} {ds : List Dd} {b : Bd} {d : Dd} {r : Str} {a : Int}
theorem BS.hook (B : BS hs cl ds b) (hr : RowOk r) (h0 : 0 ≤ a) (h1 : a ≤ 15) : m_Bed_hook [b.d, .str r, .int a] = .own (iD (hAt hs (hk r a))) := by
  unfold m_Bed_hook b_Bed_hook
  have c : fCallR 0 2 (fCons (fKey (fCons (fVar 1) (fCons (fVar 2) fNil))) fNil) m_Bed_loops_at [.sh b.d, .sh (.str r), .sh (.int a)] = .ok (.val (tI (hAt hs (hk r a)))) [.sh b.d, .sh (.str r), .sh (.int a)] :=
    ev_callR (b := b) (own := false) (ev_cons (ev_key (r := r) (k := a) (ev_cons (ev_var rfl) (ev_cons (ev_var rfl) ev_nil)) rfl) ev_nil) rfl rfl rfl (by
      change roR false (m_Bed_loops_at [b.d, kD (r, a)]) _ = _
      rw [loops_at_ok, B.lk r a hr h0 h1]
      rfl)
  exact ev_runO (ev_retK (ev_cb (ev_cons c ev_nil) rfl rfl) retK_own)
theorem BS.cloth (B : BS hs cl ds b) : m_Bed_cloth [b.d] = .own (clD cl) := by
  rw [← B.as]
  unfold m_Bed_cloth b_Bed_cloth
  exact ev_runO (ev_retK (ev_cb (ev_cons (rfl : fFld 0 1 _ = .ok (.val (.lst b.as)) _) ev_nil) rfl rfl) retK_own)
noncomputable def dsD (ds : List Dd) : List D := ds.map Dd.D
theorem fst_zip : ∀ (ds : List Dd) (ps : List (List D)), ps.length = ds.length → (List.zipWith stepD ds ps).map (fun x => match x with | .tup (y :: _) => y | x => x) = dsD ds
  | [], [], _ => rfl
  | [], _ :: _, h => by cases h
  | _ :: _, [], h => by cases h
  | d :: ds, p :: ps, h => by
    rw [List.zipWith_cons_cons, List.map_cons, fst_zip ds ps (Nat.succ.inj h)]
    rfl
theorem BS.done (B : BS hs cl ds b) (hn : ds.length < 10000) : m_Bed_done [b.d] = .own (dsD ds) := by
  obtain ⟨ps, h1, h2⟩ := B.ps
  have c : compD (sName 0) (.ret true) (fBin (fVar 0) (fC (.int 0)) gIx) b.bs [.no] [] = some (dsD ds) := by
    rw [← fst_zip ds ps h1, h2]
    refine comp_map (g := fun x => match x with | .tup (y :: _) => y | x => x) _ .no (by rw [List.length_zipWith, h1]; unfold sizeLine; omega) fun x hx => ?_
    obtain ⟨i, hi, e⟩ := List.mem_iff_getElem.mp hx
    rw [List.getElem_zipWith] at e
    subst e
    have hi1 : i < ds.length := by rw [List.length_zipWith] at hi; omega
    have hi2 : i < ps.length := by omega
    unfold fN DM.bd
    have h : (fBin (fVar 0) (fC (.int 0)) gIx) [.sh (stepD ds[i] ps[i])] = .ok (.val ds[i].D) [.sh (stepD ds[i] ps[i])] := ev_bin (ev_var rfl) ev_c rfl rfl (og_ixT (atI_zero _ _))
    rw [h]
    rfl
  unfold m_Bed_done b_Bed_done
  exact ev_runO (ev_retK (ev_lc (ev_it (rfl : fFld 0 2 _ = .ok (.val (.lst b.bs)) _) rfl rfl) c) retK_own)
theorem okD_deed : ∀ d : Dd, okD 7 d.D = true
  | .ky _ _ _ _ => rfl
  | .mv _ _ _ => rfl
theorem dsD_self (ds : List Dd) : gNe (.lst (dsD ds)) (.lst (dsD ds)) = some (.val (.bl false)) := by
  refine og_ne (deq_self 8 _ ?_)
  change (dsD ds).all (okD 7) = true
  unfold dsD
  rw [List.all_map]
  exact List.all_eq_true.mpr fun d _ => okD_deed d
noncomputable def bSt : DM Fl := (fSeq (fIf (fNotT (fTest (fCall 2 (fCons (fCallR 0 3 (fCons (fC (.str "f")) (fCons (fVar 4) fNil)) m_Bed_hook) (fCons (fBin (fVar 1) (fVar 4) gIx) fNil)) m_alike_hook))) (fRet (fC (.bl false))) fNext)
    (fIf (fNotT (fTest (fCall 2 (fCons (fCallR 0 3 (fCons (fC (.str "b")) (fCons (fVar 4) fNil)) m_Bed_hook) (fCons (fBin (fVar 1) (fBin (fC (.int 16)) (fVar 4) gAdd) gIx) fNil)) m_alike_hook))) (fRet (fC (.bl false))) fNext))
theorem st_turn (B : BS hs cl ds b) (h32 : hs.length = 32) (h4 : ∀ l ∈ hs, l.length ≤ 4) (x2 x3 : Sl) (k : Nat) (hk' : k < 16) : bSt [.sh b.d, .sh (.lst (lvD hs)), x2, x3, .sh (.int (k : Int))] = .ok .nx [.sh b.d, .sh (.lst (lvD hs)), x2, x3, .sh (.int (k : Int))] := by
  have bf : ¬ Str.ofString "b" = Str.ofString "f" := by decide +kernel
  have f1 := B.hook (r := Str.ofString "f") (a := (k : Int)) (.inl rfl) (by omega) (by omega)
  have f2 := B.hook (r := Str.ofString "b") (a := (k : Int)) (.inr rfl) (by omega) (by omega)
  have e1 : hk (Str.ofString "f") (k : Int) = (k : Int) := if_pos rfl
  have e2 : hk (Str.ofString "b") (k : Int) = 16 + (k : Int) := if_neg bf
  rw [e1] at f1
  rw [e2] at f2
  have i1 : gIx (.lst (lvD hs)) (.int (k : Int)) = some (.val (.lst (iD (hAt hs (k : Int))))) := lv_ix (by omega) (hAt_is (by omega))
  have i2 : gIx (.lst (lvD hs)) (.int (16 + (k : Int))) = some (.val (.lst (iD (hAt hs (16 + (k : Int)))))) := lv_ix (by omega) (hAt_is (by omega))
  have a1 := alike_hook_ok (hAt hs (k : Int)) (Nat.le_trans (h4 _ (hAt_mem (by omega))) (by omega))
  have a2 := alike_hook_ok (hAt hs (16 + (k : Int))) (Nat.le_trans (h4 _ (hAt_mem (by omega))) (by omega))
  unfold bSt
  refine ev_seqK (ev_if (ev_notT (ev_test (ev_call (ev_cons (ev_callR (b := b) (own := false) (Z := .ok (.own (iD (hAt hs (k : Int)))) _) (ev_cons ev_c (ev_cons (ev_var rfl) ev_nil)) rfl rfl rfl (by
    change roR false (m_Bed_hook [b.d, .str (Str.ofString "f"), .int (k : Int)]) _ = _
    rw [f1]
    rfl)) (ev_cons (ev_bin (ev_var rfl) (ev_var rfl) rfl rfl i1) ev_nil)) rfl rfl a1) rfl)) (ev_iteF rfl ev_next)) (seqK_nx ?_)
  exact ev_if (ev_notT (ev_test (ev_call (ev_cons (ev_callR (b := b) (own := false) (Z := .ok (.own (iD (hAt hs (16 + (k : Int))))) _) (ev_cons ev_c (ev_cons (ev_var rfl) ev_nil)) rfl rfl rfl (by
    change roR false (m_Bed_hook [b.d, .str (Str.ofString "b"), .int (k : Int)]) _ = _
    rw [f2]
    rfl)) (ev_cons (ev_bin (ev_var rfl) (ev_bin ev_c (ev_var rfl) rfl rfl og_addI) rfl rfl i2) ev_nil)) rfl rfl a2) rfl)) (ev_iteF rfl ev_next)
theorem st_loop (B : BS hs cl ds b) (h32 : hs.length = 32) (h4 : ∀ l ∈ hs, l.length ≤ 4) (x2 x3 : Sl) : ∀ (ks : List D) (x4 : Sl), (∀ d ∈ ks, ∃ k : Nat, k < 16 ∧ d = .int (k : Int)) → ∃ y4, loopD (sName 4) bSt ks [.sh b.d, .sh (.lst (lvD hs)), x2, x3, x4] = .ok .nx [.sh b.d, .sh (.lst (lvD hs)), x2, x3, y4]
  | [], x4, _ => ⟨x4, rfl⟩
  | d :: ks, x4, h => by
    obtain ⟨k, hk', rfl⟩ := h d List.mem_cons_self
    obtain ⟨y4, e⟩ := st_loop B h32 h4 x2 x3 ks (.sh (.int (k : Int))) fun d hd => h d (List.mem_cons_of_mem _ hd)
    exact ⟨y4, loop_nx rfl (st_turn B h32 h4 x2 x3 k hk') e⟩
theorem BS.stands (B : BS hs cl ds b) (h32 : hs.length = 32) (h4 : ∀ l ∈ hs, l.length ≤ 4) (hc : cl.length ≤ 1000) (hh : ∀ l ∈ cl, l.2.2.length ≤ 1000) (hn : ds.length < 10000) : m_stands [b.d, .lst (lvD hs), .lst (clD cl), .lst (dsD ds)] = .ok (.bl true) := by
  have a1 := alike_cloth_ok cl hc hh
  have b1 := B.cloth
  have b2 := B.done hn
  obtain ⟨y4, e⟩ := st_loop B h32 h4 (.sh (.lst (clD cl))) (.sh (.lst (dsD ds))) (rangeD 0 16) .no fun d hd => range0_mem hd
  unfold bSt at e
  unfold m_stands b_stands
  refine ev_run (ev_seqK (ev_if (ev_orB (ev_notT (ev_test (ev_call (ev_cons (ev_callR (b := b) (own := false) (Z := .ok (.own (clD cl)) _) ev_nil rfl rfl rfl (by
    change roR false (m_Bed_cloth [b.d]) _ = _
    rw [b1]
    rfl)) (ev_cons (ev_var rfl) ev_nil)) rfl rfl a1) rfl)) (ev_test (ev_bin (ev_callR (b := b) (own := false) (Z := .ok (.own (dsD ds)) _) ev_nil rfl rfl rfl (by
    change roR false (m_Bed_done [b.d]) _ = _
    rw [b2]
    rfl)) (ev_var rfl) rfl rfl (dsD_self ds)) rfl)) (ev_iteF rfl ev_next)) (seqK_nx (ev_seqK (ev_for (ev_rng1 (ev_cons ev_c ev_nil) rfl rfl) e) (seqK_nx (ev_retK ev_c retK_val)))))
noncomputable def hA : Str → DM Fl := (fun c => match tab_TooFar c with | some true => fun δ => rForget 2 ((fRet (fTup (fCons (fC (.str "far")) (fCons (fAndV (fCall 1 (fCons (fVar 2) fNil) m_own) (fAndV (fNotV (fUn (fVar 2) (gIsX tab_Empty))) (fNotV (fUn (fVar 2) (gIsX tab_Overfull))))) fNil)))) (δ.set 2 (.sh (.exc c)))) | some false => (fun c => match tab_Empty c with | some true => fun δ => rForget 2 ((fRet (fTup (fCons (fC (.str "empty")) (fCons (fAndV (fCall 1 (fCons (fVar 2) fNil) m_own) (fAndV (fNotV (fUn (fVar 2) (gIsX tab_TooFar))) (fNotV (fUn (fVar 2) (gIsX tab_Overfull))))) fNil)))) (δ.set 2 (.sh (.exc c)))) | some false => (fun c => match tab_Overfull c with | some true => fun δ => rForget 2 ((fRet (fTup (fCons (fC (.str "full")) (fCons (fAndV (fCall 1 (fCons (fVar 2) fNil) m_own) (fAndV (fNotV (fUn (fVar 2) (gIsX tab_Empty))) (fNotV (fUn (fVar 2) (gIsX tab_TooFar))))) fNil)))) (δ.set 2 (.sh (.exc c)))) | some false => (fun _ _ => .un) c | none => fun _ => .un) c | none => fun _ => .un) c | none => fun _ => .un)
theorem hA_far (s : Sl) (x : D) : hA "TooFar" [s, .sh x, .no] = .ok (.rt (.tup [.str "far", .bl true])) [s, .sh x, .no] := by kernel_rfl
theorem hA_empty (s : Sl) (x : D) : hA "Empty" [s, .sh x, .no] = .ok (.rt (.tup [.str "empty", .bl true])) [s, .sh x, .no] := by kernel_rfl
theorem hA_full (s : Sl) (x : D) : hA "Overfull" [s, .sh x, .no] = .ok (.rt (.tup [.str "full", .bl true])) [s, .sh x, .no] := by kernel_rfl
end
end Lw
namespace DL
open PySem L2
theorem ev_lend {f : DM DV} {δ δ1 : DSt} {d : D} (h : f (δ.map lendS) = .ok (.val d) δ1) (hf : flat d = true) : fLend f δ = .ok (.val d) δ := by
  unfold fLend
  simp only [h, hf, if_true]
end DL
namespace Lw
open PySem L2 DL
theorem Bed.held {hs : List (List Int)} {cl : List Lp} {n : Nat} (h : Bed hs cl n) : ∀ l ∈ cl, l.2.2.length ≤ 1000 := by
  induction h with
  | start => exact fun l hl => by cases hl
  | skip h ih => exact ih
  | @step hs cl n d h hd hw ih =>
    obtain ⟨h32, h4, _⟩ := h.size
    cases d with
    | mv r a t => exact ih
    | ky k r a y =>
      obtain ⟨hk', hr, h0, h1, hy⟩ := hd
      have hb := hk_lt (r := r) h0 h1
      have hm := h4 _ (hAt_mem (hs := hs) (i := hk r a) (by omega))
      intro l hl
      have hl : l ∈ (if k = Str.ofString "tuck" then (hs.set (hk r a).toNat (hAt hs (hk r a) ++ [(cl.length : Int)]), cl ++ [(y, Str.ofString "t", [])]) else (hs.set (hk r a).toNat [(cl.length : Int)], cl ++ [(y, if r = Str.ofString "f" then Str.ofString "k" else Str.ofString "p", hAt hs (hk r a))])).2 := hl
      split at hl
      · rcases List.mem_append.mp hl with z | z
        · exact ih l z
        · rw [List.mem_singleton.mp z]; exact Nat.zero_le _
      · rcases List.mem_append.mp hl with z | z
        · exact ih l z
        · rw [List.mem_singleton.mp z]; change (hAt hs (hk r a)).length ≤ 1000; omega
theorem word_vals {hs : List (List Int)} {d : Dd} {w : Str} (h : wordF hs d = some w) : w = Str.ofString "far" ∨ w = Str.ofString "empty" ∨ w = Str.ofString "full" := by
  cases d with
  | ky k r a y =>
    have h : (if k = Str.ofString "knit" ∧ hAt hs (hk r a) = [] then some (Str.ofString "empty") else if k = Str.ofString "tuck" ∧ (hAt hs (hk r a)).length = 4 then some (Str.ofString "full") else none) = some w := h
    split at h
    · cases h; exact .inr (.inl rfl)
    · split at h
      · cases h; exact .inr (.inr rfl)
      · cases h
  | mv r a t =>
    have h : (if a - t > 2 ∨ t - a > 2 then some (Str.ofString "far") else if hAt hs (hk r a) = [] then some (Str.ofString "empty") else if (hAt hs (hk r a)).length + (hAt hs (hk (other r) t)).length > 4 then some (Str.ofString "full") else none) = some w := h
    split at h
    · cases h; exact .inl rfl
    · split at h
      · cases h; exact .inr (.inl rfl)
      · split at h
        · cases h; exact .inr (.inr rfl)
        · cases h
section
variable {hs : List (List Int)} {cl : List Lp} {ds : List Dd} {b b' : Bd} {d : Dd} {x : D} {c : Str} {n : Nat}
theorem lact_ok (h : m_Bed_act b [d.D] = .ok x b') : m_act b [d.D] = .ok (.tup [.str "done", x]) b' := by
  have k : fCallWX 0 2 (fCons (fVar 1) fNil) m_Bed_act [b.sl, .sh d.D, .no] = .ok (.inr (.val x)) [b'.sl, .sh d.D, .no] :=
    ev_callWX (b := b) (own := true) (ev_cons (ev_var rfl) ev_nil) rfl rfl rfl (by rw [h]; rfl)
  unfold m_act b_act
  refine ev_runWrt (δ1 := [b'.sl, .sh d.D, .no]) ?_ rfl
  change fTryR (fTupX (.str "done") (fCallWX 0 2 (fCons (fVar 1) fNil) m_Bed_act)) hA [b.sl, .sh d.D, .no] = _
  unfold fTryR fTupX DM.bd
  simp only [k]
  rfl
theorem lact_er (h : m_Bed_act b [d.D] = .er c) (hh : hA c [b.sl, .sh d.D, .no] = .ok (.rt x) [b.sl, .sh d.D, .no]) : m_act b [d.D] = .ok x b := by
  have k : fCallWX 0 2 (fCons (fVar 1) fNil) m_Bed_act [b.sl, .sh d.D, .no] = .ok (.inl c) [b.sl, .sh d.D, .no] :=
    ev_callWX (b := b) (own := true) (ev_cons (ev_var rfl) ev_nil) rfl rfl rfl (by rw [h]; rfl)
  unfold m_act b_act
  refine ev_runWrt (δ1 := [b.sl, .sh d.D, .no]) ?_ rfl
  change fTryR (fTupX (.str "done") (fCallWX 0 2 (fCons (fVar 1) fNil) m_Bed_act)) hA [b.sl, .sh d.D, .no] = _
  unfold fTryR fTupX DM.bd
  simp only [k]
  exact hh
theorem lact_word (B : BS hs cl ds b) (hB : Bed hs cl n) (hc : n < 1000) (hn : ds.length < 1000) (hd : d.ok) :
    (wordF hs d = none → ∃ b', m_act b [d.D] = .ok (.tup [.str "done", ansF cl d]) b' ∧ BS (doF hs cl d).1 (doF hs cl d).2 (ds ++ [d]) b') ∧ (∀ w, wordF hs d = some w → m_act b [d.D] = .ok (.tup [.str w, .bl true]) b) := by
  obtain ⟨h32, h4, hl⟩ := hB.size
  obtain ⟨p1, p2⟩ := act_step B h32 h4 (by omega) hn hd
  refine ⟨fun z => ?_, fun w z => ?_⟩
  · obtain ⟨b', e1, e2⟩ := p1 z
    exact ⟨b', lact_ok e1, e2⟩
  · have e := p2 w z
    rcases word_vals z with rfl | rfl | rfl
    · rw [exc_far] at e; exact lact_er e (hA_far _ _)
    · rw [exc_empty] at e; exact lact_er e (hA_empty _ _)
    · rw [exc_full] at e; exact lact_er e (hA_full _ _)
end
noncomputable def bT : DM Fl := (fSeq (fSet 12 (fCallN 2 [0] (fCons (fVar 7) (fCons (fVar 10) fNil)) m_word))
    (fSeq (fSet 13 (fCallW 6 2 (fCons (fVar 10) fNil) m_act))
    (fSeq (fIf (fTest (fBin (fVar 12) (fC .non) gIsN)) (fSeq (fIf (fTest (fBin (fBin (fVar 13) (fC (.int 0)) gIx) (fC (.str "done")) gNe)) (fRet (fC (.bl false))) fNext)
    (fSeq (fDrop (fCallN 3 [0, 1] (fCons (fVar 7) (fCons (fVar 8) (fCons (fVar 10) fNil))) m_do))
    (fSet 5 (fBin (fVar 5) (fLst (fCons (fVar 10) fNil)) gAdd)))) (fIf (fOrT (fTest (fBin (fBin (fVar 13) (fC (.int 0)) gIx) (fVar 12) gNe)) (fTest (fBin (fBin (fVar 13) (fC (.int 1)) gIx) (fC (.bl true)) gIsNotB))) (fRet (fC (.bl false))) fNext))
    (fIf (fNotT (fTest (fLend (fCall 4 (fCons (fVar 6) (fCons (fVar 7) (fCons (fVar 8) (fCons (fVar 5) fNil)))) m_stands)))) (fRet (fC (.bl false))) fNext))))
noncomputable def bD : DM Fl := (fSeq (fDrop (fCallW 6 2 (fCons (fVar 9) fNil) m_Bed_act))
    (fDrop (fCallN 3 [0, 1] (fCons (fVar 7) (fCons (fVar 8) (fCons (fVar 9) fNil))) m_do)))
noncomputable abbrev S11 (s0 s1 s2 s3 s4 : Sl) (ds : List Dd) (b : Bd) (hs : List (List Int)) (cl : List Lp) (s9 s10 s11 s12 s13 : Sl) : DSt := [s0, s1, s2, s3, s4, .sh (.lst (dsD ds)), b.sl, .ow (lvD hs), .ow (clD cl), s9, s10, s11, s12, s13]
theorem dsD_app (a b : List Dd) : dsD (a ++ b) = dsD a ++ dsD b := List.map_append
theorem dsD_len (a : List Dd) : (dsD a).length = a.length := List.length_map _
section
variable {s0 s1 s2 s3 s4 s9 s10 s11 s12 s13 : Sl} {hs : List (List Int)} {cl : List Lp} {ds : List Dd} {b : Bd} {d : Dd} {n : Nat}
theorem T11 (hB : Bed hs cl n) (B : BS hs cl ds b) (hn : n < 900) (hl : ds.length < 900) (hd : d.ok) : ∃ hs' cl' ds' b' n' x12 x13, Bed hs' cl' n' ∧ BS hs' cl' ds' b' ∧ n' ≤ n + 1 ∧ ds'.length ≤ ds.length + 1 ∧
    bT (S11 s0 s1 s2 s3 s4 ds b hs cl s9 (.sh d.D) s11 s12 s13) = .ok .nx (S11 s0 s1 s2 s3 s4 ds' b' hs' cl' s9 (.sh d.D) s11 x12 x13) := by
  obtain ⟨h32, h4, hcl⟩ := hB.size
  have gw := word_ok hs h32 d hd
  have gdo := do_ok hs cl h32 (fun l hl => by have := h4 l hl; omega) (by omega) d hd
  obtain ⟨p1, p2⟩ := lact_word B hB (by omega) (by omega) hd
  have k1 : (fCallN 2 [0] (fCons (fVar 7) (fCons (fVar 10) fNil)) m_word) (S11 s0 s1 s2 s3 s4 ds b hs cl s9 (.sh d.D) s11 s12 s13) = .ok (.val (wordD (wordF hs d))) (S11 s0 s1 s2 s3 s4 ds b hs cl s9 (.sh d.D) s11 s12 s13) :=
    ev_callN (is := [0]) (js := [7]) (mss := [lvD hs]) (ds := [.non, d.D]) (ev_cons (ev_slot rfl) (ev_cons (ev_var rfl) ev_nil)) rfl (by decide) rfl rfl rfl gw rnRs_ok
  unfold bT
  cases hw : wordF hs d with
  | none =>
    obtain ⟨b', e1, B'⟩ := p1 hw
    have hB' := hB.step hd hw
    obtain ⟨g32, g4, gcl⟩ := hB'.size
    rw [hw] at k1
    have k2 : (fCallW 6 2 (fCons (fVar 10) fNil) m_act) (S11 s0 s1 s2 s3 s4 ds b hs cl s9 (.sh d.D) s11 (.sh .non) s13) = .ok (.val (.tup [.str "done", ansF cl d])) (S11 s0 s1 s2 s3 s4 ds b' hs cl s9 (.sh d.D) s11 (.sh .non) s13) :=
      ev_callW (b := b) (own := true) (ev_cons (ev_var rfl) ev_nil) rfl rfl rfl (by rw [e1]; rfl)
    have k3 : (fCallN 3 [0, 1] (fCons (fVar 7) (fCons (fVar 8) (fCons (fVar 10) fNil))) m_do) (S11 s0 s1 s2 s3 s4 ds b' hs cl s9 (.sh d.D) s11 (.sh .non) (.sh (.tup [.str "done", ansF cl d]))) = .ok (.val .non) (S11 s0 s1 s2 s3 s4 ds b' (doF hs cl d).1 (doF hs cl d).2 s9 (.sh d.D) s11 (.sh .non) (.sh (.tup [.str "done", ansF cl d]))) :=
      ev_callN (is := [0, 1]) (js := [7, 8]) (mss := [lvD hs, clD cl]) (ds := [.non, .non, d.D]) (ev_cons (ev_slot rfl) (ev_cons (ev_slot rfl) (ev_cons (ev_var rfl) ev_nil))) rfl (by decide) rfl rfl rfl gdo rnRs_ok
    have ga : gAdd (.lst (dsD ds)) (.lst [d.D]) = some (.own (dsD (ds ++ [d]))) := by
      rw [dsD_app]
      exact og_addL (by rw [dsD_len]; change _ + 1 ≤ _; unfold sizeLine; omega)
    have st := B'.stands g32 g4 (by omega) hB'.held (by rw [List.length_append]; change _ + 1 < _; omega)
    refine ⟨_, _, ds ++ [d], b', n + 1, .sh .non, .sh (.tup [.str "done", ansF cl d]), hB', B', Nat.le_refl _, by rw [List.length_append]; exact Nat.le_refl _, ?_⟩
    refine ev_seqK (ev_set k1 rfl) (seqK_nx (ev_seqK (ev_set k2 rfl) (seqK_nx (ev_seqK (ev_if (ev_test (ev_bin (ev_var rfl) ev_c rfl rfl rfl) rfl) (ev_iteT rfl (ev_seqK (ev_if (ev_test (ev_bin (ev_bin (ev_var rfl) ev_c rfl rfl (og_ixT (atI_zero _ _))) ev_c rfl rfl (og_ne (deq_self 8 _ rfl))) rfl) (ev_iteF rfl ev_next)) (seqK_nx (ev_seqK (ev_drp k3) (seqK_nx (ev_set (ev_bin (ev_var rfl) (ev_lst (ev_cons (ev_var rfl) ev_nil) rfl (by change 1 ≤ sizeLine; unfold sizeLine; omega)) rfl rfl ga) rfl))))))) (seqK_nx ?_)))))
    exact ev_if (ev_notT (ev_test (ev_lend (ev_call (ev_cons (ev_var rfl) (ev_cons (ev_var rfl) (ev_cons (ev_var rfl) (ev_cons (ev_var rfl) ev_nil)))) rfl rfl st) rfl) rfl)) (ev_iteF rfl ev_next)
  | some w =>
    have e1 := p2 w hw
    rw [hw] at k1
    have k2 : (fCallW 6 2 (fCons (fVar 10) fNil) m_act) (S11 s0 s1 s2 s3 s4 ds b hs cl s9 (.sh d.D) s11 (.sh (.str w)) s13) = .ok (.val (.tup [.str w, .bl true])) (S11 s0 s1 s2 s3 s4 ds b hs cl s9 (.sh d.D) s11 (.sh (.str w)) s13) :=
      ev_callW (b := b) (own := true) (ev_cons (ev_var rfl) ev_nil) rfl rfl rfl (by rw [e1]; rfl)
    have st := B.stands h32 h4 (by omega) hB.held (by omega)
    refine ⟨hs, cl, ds, b, n, .sh (.str w), .sh (.tup [.str w, .bl true]), hB, B, Nat.le_succ _, Nat.le_succ _, ?_⟩
    refine ev_seqK (ev_set k1 rfl) (seqK_nx (ev_seqK (ev_set k2 rfl) (seqK_nx (ev_seqK (ev_if (ev_test (ev_bin (ev_var rfl) ev_c rfl rfl rfl) rfl) (ev_iteF rfl (ev_if (ev_orB (ev_test (ev_bin (ev_bin (ev_var rfl) ev_c rfl rfl (og_ixT (atI_zero _ _))) (ev_var rfl) rfl rfl (og_ne (deq_self 8 _ rfl))) rfl) (ev_test (ev_bin (ev_bin (ev_var rfl) ev_c rfl rfl rfl) ev_c rfl rfl rfl) rfl)) (ev_iteF rfl ev_next)))) (seqK_nx ?_)))))
    exact ev_if (ev_notT (ev_test (ev_lend (ev_call (ev_cons (ev_var rfl) (ev_cons (ev_var rfl) (ev_cons (ev_var rfl) (ev_cons (ev_var rfl) ev_nil)))) rfl rfl st) rfl) rfl)) (ev_iteF rfl ev_next)
theorem D11 (hB : Bed hs cl n) (B : BS hs cl ds b) (hn : n < 900) (hl : ds.length < 900) (hd : d.ok) (hw : wordF hs d = none) (x5 : Sl) : ∃ b', BS (doF hs cl d).1 (doF hs cl d).2 (ds ++ [d]) b' ∧ Bed (doF hs cl d).1 (doF hs cl d).2 (n + 1) ∧
    bD [s0, s1, s2, s3, s4, x5, b.sl, .ow (lvD hs), .ow (clD cl), .sh d.D, s10, s11, s12, s13] = .ok .nx [s0, s1, s2, s3, s4, x5, b'.sl, .ow (lvD (doF hs cl d).1), .ow (clD (doF hs cl d).2), .sh d.D, s10, s11, s12, s13] := by
  obtain ⟨h32, h4, hcl⟩ := hB.size
  have gdo := do_ok hs cl h32 (fun l hl => by have := h4 l hl; omega) (by omega) d hd
  obtain ⟨p1, p2⟩ := act_step B h32 h4 (by omega) (by omega) hd
  obtain ⟨b', e1, B'⟩ := p1 hw
  have k1 : (fCallW 6 2 (fCons (fVar 9) fNil) m_Bed_act) [s0, s1, s2, s3, s4, x5, b.sl, .ow (lvD hs), .ow (clD cl), .sh d.D, s10, s11, s12, s13] = .ok (.val (ansF cl d)) [s0, s1, s2, s3, s4, x5, b'.sl, .ow (lvD hs), .ow (clD cl), .sh d.D, s10, s11, s12, s13] :=
    ev_callW (b := b) (own := true) (ev_cons (ev_var rfl) ev_nil) rfl rfl rfl (by rw [e1]; rfl)
  have k3 : (fCallN 3 [0, 1] (fCons (fVar 7) (fCons (fVar 8) (fCons (fVar 9) fNil))) m_do) [s0, s1, s2, s3, s4, x5, b'.sl, .ow (lvD hs), .ow (clD cl), .sh d.D, s10, s11, s12, s13] = .ok (.val .non) [s0, s1, s2, s3, s4, x5, b'.sl, .ow (lvD (doF hs cl d).1), .ow (clD (doF hs cl d).2), .sh d.D, s10, s11, s12, s13] :=
    ev_callN (is := [0, 1]) (js := [7, 8]) (mss := [lvD hs, clD cl]) (ds := [.non, .non, d.D]) (ev_cons (ev_slot rfl) (ev_cons (ev_slot rfl) (ev_cons (ev_var rfl) ev_nil))) rfl (by decide) rfl rfl rfl gdo rnRs_ok
  unfold bD
  exact ⟨b', B', hB.step hd hw, ev_seqK (ev_drp k1) (seqK_nx (ev_drp k3))⟩
end
end Lw
namespace Lw
open PySem L2 DL
noncomputable def Good : List (List Int) → List Lp → List Dd → Prop
  | _, _, [] => True
  | hs, cl, d :: es => d.ok ∧ wordF hs d = none ∧ Good (doF hs cl d).1 (doF hs cl d).2 es
section
variable {s0 s1 s2 s3 s4 s10 s11 s12 s13 : Sl}
theorem L11 (x5 : Sl) : ∀ (es : List Dd) (hs : List (List Int)) (cl : List Lp) (ds : List Dd) (b : Bd) (n : Nat) (s9 : Sl), Good hs cl es → Bed hs cl n → BS hs cl ds b → n + es.length < 900 → ds.length + es.length < 900 →
    ∃ hs' cl' b' y9, Bed hs' cl' (n + es.length) ∧ BS hs' cl' (ds ++ es) b' ∧ loopD (sName 9) bD (dsD es) [s0, s1, s2, s3, s4, x5, b.sl, .ow (lvD hs), .ow (clD cl), s9, s10, s11, s12, s13] = .ok .nx [s0, s1, s2, s3, s4, x5, b'.sl, .ow (lvD hs'), .ow (clD cl'), y9, s10, s11, s12, s13]
  | [], hs, cl, ds, b, n, s9, _, hB, B, _, _ => ⟨hs, cl, b, s9, hB, by rw [List.append_nil]; exact B, rfl⟩
  | d :: es, hs, cl, ds, b, n, s9, hg, hB, B, h1, h2 => by
    obtain ⟨hd, hw, hg'⟩ := hg
    rw [List.length_cons] at h1 h2
    obtain ⟨b', B', hB', e⟩ := D11 (s0 := s0) (s1 := s1) (s2 := s2) (s3 := s3) (s4 := s4) (s10 := s10) (s11 := s11) (s12 := s12) (s13 := s13) hB B (by omega) (by omega) hd hw x5
    obtain ⟨hs', cl', b2, y9, k1, k2, k3⟩ := L11 x5 es _ _ (ds ++ [d]) b' (n + 1) (.sh d.D) hg' hB' B' (by omega) (by rw [List.length_append]; change ds.length + 1 + _ < _; omega)
    refine ⟨hs', cl', b2, y9, by rw [List.length_cons, show n + (es.length + 1) = n + 1 + es.length by omega]; exact k1, ?_, loop_nx rfl e k3⟩
    rw [List.append_assoc] at k2
    exact k2
end
theorem good_t {r : Str} {a : Int} {y : Str} {es : List Dd} (hd : (dT r a y).ok) : ∀ (p : Nat) (hs : List (List Int)) (cl : List Lp), hs.length = 32 → (hAt hs (hk r a)).length + p ≤ 4 →
    (∀ hs' cl', hs'.length = 32 → (∀ r' a', RowOk r' → 0 ≤ a' → a' ≤ 15 → (r, a) ≠ (r', a') → hAt hs' (hk r' a') = hAt hs (hk r' a')) → Good hs' cl' es) → Good hs cl (List.replicate p (dT r a y) ++ es)
  | 0, hs, cl, h32, _, h => h hs cl h32 fun _ _ _ _ _ _ => rfl
  | p + 1, hs, cl, h32, hl, h => by
    obtain ⟨_, hr, h0, h1, _⟩ := id hd
    have hb := hk_lt (r := r) h0 h1
    have hdo : doF hs cl (dT r a y) = (hs.set (hk r a).toNat (hAt hs (hk r a) ++ [(cl.length : Int)]), cl ++ [(y, Str.ofString "t", [])]) := by
      change (if Str.ofString "tuck" = Str.ofString "tuck" then (hs.set (hk r a).toNat (hAt hs (hk r a) ++ [(cl.length : Int)]), cl ++ [(y, Str.ofString "t", [])]) else (hs.set (hk r a).toNat [(cl.length : Int)], cl ++ [(y, if r = Str.ofString "f" then Str.ofString "k" else Str.ofString "p", hAt hs (hk r a))])) = _
      rw [if_pos rfl]
    refine ⟨hd, ?_, ?_⟩
    · change (if Str.ofString "tuck" = Str.ofString "knit" ∧ hAt hs (hk r a) = [] then some (Str.ofString "empty") else if Str.ofString "tuck" = Str.ofString "tuck" ∧ (hAt hs (hk r a)).length = 4 then some (Str.ofString "full") else none) = _
      rw [if_neg (fun z => tk_ne z.1), if_neg (fun z => by have := z.2; omega)]
    · change Good (doF hs cl (dT r a y)).1 (doF hs cl (dT r a y)).2 (List.replicate p (dT r a y) ++ es)
      rw [hdo]
      refine good_t hd p _ _ (by rw [List.length_set]; exact h32) ?_ fun hs' cl' g32 hh => h hs' cl' g32 fun r' a' hr' h0' h1' hne => ?_
      · rw [hAt_set (by omega), if_pos rfl, List.length_append]; change _ + 1 + p ≤ 4; omega
      · rw [hh r' a' hr' h0' h1' hne, hAt_set (by omega), if_neg (fun z => hne ((hk_inj hr hr' h0 h1 h0' h1').mp z))]
theorem hAt_start (i : Int) : hAt (List.replicate 32 []) i = [] := by
  unfold hAt
  rw [List.getD_eq_getElem?_getD, List.getElem?_replicate]
  split <;> rfl
theorem good11 {r o : Str} {a t : Int} {y z : Str} (hd : (dT r a y).ok) (he : (dT o t z).ok) (hne : r ≠ o) {p q : Nat} (hp : p ≤ 4) (hq : q ≤ 4) : Good (List.replicate 32 []) [] (List.replicate p (dT r a y) ++ List.replicate q (dT o t z)) := by
  refine good_t hd p _ _ List.length_replicate (by rw [hAt_start]; change 0 + p ≤ 4; omega) fun hs' cl' g32 hh => ?_
  obtain ⟨_, hr, h0, h1, _⟩ := id he
  have g := good_t (es := []) he q hs' cl' g32 (by rw [hh o t hr h0 h1 (fun z => hne (congrArg Prod.fst z)), hAt_start]; change 0 + q ≤ 4; omega) fun _ _ _ _ => trivial
  rw [List.append_nil] at g
  exact g
noncomputable def elA : DM DV := (fTup (fCons (fC (.str "tuck")) (fCons (fVar 1) (fCons (fVar 2) (fCons (fC (.str "a")) fNil)))))
noncomputable def elB : DM DV := (fTup (fCons (fC (.str "tuck")) (fCons (fVar 1) (fCons (fVar 2) (fCons (fC (.str "b")) fNil)))))
theorem rep_map (d : Dd) (ks : List D) : ks.map (fun _ => d.D) = dsD (List.replicate ks.length d) := by
  unfold dsD
  rw [List.map_replicate, List.map_const']
theorem compA (r : Str) (a : Int) (n : Nat) (hn : n ≤ 1000) : compD (sName 0) (.ret true) elA (rangeD 0 n) [.no, .sh (.str r), .sh (.int a)] [] = some (dsD (List.replicate n (dT r a "a"))) := by
  refine (comp_map (g := fun _ => (dT r a "a").D) _ .no (by rw [rangeD_len]; unfold sizeLine; omega) fun d hd => ?_).trans (by rw [rep_map, rangeD_len])
  have h : elA [.sh d, .sh (.str r), .sh (.int a)] = .ok (.val (dT r a "a").D) [.sh d, .sh (.str r), .sh (.int a)] := ev_tup (ev_cons ev_c (ev_cons (ev_var rfl) (ev_cons (ev_var rfl) (ev_cons ev_c ev_nil)))) rfl (by change 4 ≤ sizeLine; unfold sizeLine; omega)
  unfold fN DM.bd
  rw [h]
  rfl
theorem compB (r : Str) (a : Int) (n : Nat) (hn : n ≤ 1000) : compD (sName 0) (.ret true) elB (rangeD 0 n) [.no, .sh (.str r), .sh (.int a)] [] = some (dsD (List.replicate n (dT r a "b"))) := by
  refine (comp_map (g := fun _ => (dT r a "b").D) _ .no (by rw [rangeD_len]; unfold sizeLine; omega) fun d hd => ?_).trans (by rw [rep_map, rangeD_len])
  have h : elB [.sh d, .sh (.str r), .sh (.int a)] = .ok (.val (dT r a "b").D) [.sh d, .sh (.str r), .sh (.int a)] := ev_tup (ev_cons ev_c (ev_cons (ev_var rfl) (ev_cons (ev_var rfl) (ev_cons ev_c ev_nil)))) rfl (by change 4 ≤ sizeLine; unfold sizeLine; omega)
  unfold fN DM.bd
  rw [h]
  rfl
noncomputable def q4 : DM Fl := (fIf (fTest (fBin (fBin (fBin (fCall 2 (fCons (fVar 0) (fCons (fC (.int 2)) fNil)) m_cell_at) (fC (.int 16)) gDiv) (fC (.int 3)) gMod) (fC (.int 0)) (gCmp gt))) (fSet 4 (fCB (fCons (fC (.int 0)) (fCons (fCB (fCons (fC (.int 15)) (fCons (fBin (fBin (fVar 3) (fBin (fBin (fCall 2 (fCons (fVar 0) (fCons (fC (.int 2)) fNil)) m_cell_at) (fC (.int 48)) gDiv) (fC (.int 7)) gMod) gAdd) (fC (.int 3)) gSub) fNil)) gMin) fNil)) gMax)) fNext)
noncomputable def q5 : DM Fl := (fSet 5 (fLC (fRng1 (fCons (fBin (fCall 2 (fCons (fVar 0) (fCons (fC (.int 3)) fNil)) m_cell_at) (fC (.int 5)) gMod) fNil)) (sName 0) (.ret true) (fTup (fCons (fC (.str "tuck")) (fCons (fVar 1) (fCons (fVar 2) (fCons (fC (.str "a")) fNil))))) [none, some 1, some 3]))
noncomputable def q6 : DM Fl := (fSet 5 (fBin (fVar 5) (fLC (fRng1 (fCons (fBin (fCall 2 (fCons (fVar 0) (fCons (fC (.int 4)) fNil)) m_cell_at) (fC (.int 5)) gMod) fNil)) (sName 0) (.ret true) (fTup (fCons (fC (.str "tuck")) (fCons (fVar 1) (fCons (fVar 2) (fCons (fC (.str "b")) fNil))))) [none, some 2, some 4]) gAdd))
noncomputable def q8 : DM Fl := (fSetO 7 (fLC (fRng1 (fCons (fC (.int 32)) fNil)) (sName 0) (.ret true) (fLst fNil) [none]))
noncomputable def q11 : DM Fl := (fSet 10 (fTup (fCons (fC (.str "move")) (fCons (fVar 1) (fCons (fVar 3) (fCons (fVar 4) fNil))))))
noncomputable def q12 : DM Fl := (fIf (fTest (fBin (fBin (fCall 2 (fCons (fVar 0) (fCons (fC (.int 5)) fNil)) m_cell_at) (fC (.int 4)) gMod) (fC (.int 1)) gEq)) (fSet 10 (fTup (fCons (fC (.str "knit")) (fCons (fVar 1) (fCons (fVar 3) (fCons (fC (.str "c")) fNil)))))) fNext)
noncomputable def q13 : DM Fl := (fIf (fTest (fBin (fBin (fCall 2 (fCons (fVar 0) (fCons (fC (.int 5)) fNil)) m_cell_at) (fC (.int 4)) gMod) (fC (.int 2)) gEq)) (fSet 10 (fTup (fCons (fC (.str "tuck")) (fCons (fVar 1) (fCons (fVar 3) (fCons (fC (.str "c")) fNil)))))) fNext)
theorem a_ok {r : Str} {a : Int} {y : Str} (hr : RowOk r) (h0 : 0 ≤ a) (h1 : a ≤ 15) (hy : y ∈ yarns) : (dT r a y).ok := ⟨.inr rfl, hr, h0, h1, hy⟩
theorem end11 (s0 s1 s2 s3 s4 s9 s11 s12 s13 : Sl) (ds : List Dd) (b : Bd) (hs : List (List Int)) (cl : List Lp) (d : Dd) (n : Nat) (hB : Bed hs cl n) (B : BS hs cl ds b) (hn : n < 800) (hl : ds.length < 800) (hd : d.ok) : ∃ δ,
    (fSeq (fFor (fRng1 (fCons (fC (.int 2)) fNil)) (sName 11) (fSeq (fSet 12 (fCallN 2 [0] (fCons (fVar 7) (fCons (fVar 10) fNil)) m_word))
    (fSeq (fSet 13 (fCallW 6 2 (fCons (fVar 10) fNil) m_act))
    (fSeq (fIf (fTest (fBin (fVar 12) (fC .non) gIsN)) (fSeq (fIf (fTest (fBin (fBin (fVar 13) (fC (.int 0)) gIx) (fC (.str "done")) gNe)) (fRet (fC (.bl false))) fNext)
    (fSeq (fDrop (fCallN 3 [0, 1] (fCons (fVar 7) (fCons (fVar 8) (fCons (fVar 10) fNil))) m_do))
    (fSet 5 (fBin (fVar 5) (fLst (fCons (fVar 10) fNil)) gAdd)))) (fIf (fOrT (fTest (fBin (fBin (fVar 13) (fC (.int 0)) gIx) (fVar 12) gNe)) (fTest (fBin (fBin (fVar 13) (fC (.int 1)) gIx) (fC (.bl true)) gIsNotB))) (fRet (fC (.bl false))) fNext))
    (fIf (fNotT (fTest (fLend (fCall 4 (fCons (fVar 6) (fCons (fVar 7) (fCons (fVar 8) (fCons (fVar 5) fNil)))) m_stands)))) (fRet (fC (.bl false))) fNext))))) (fRet (fC (.bl true)))) (S11 s0 s1 s2 s3 s4 ds b hs cl s9 (.sh d.D) s11 s12 s13) = .ok (.rt (.bl true)) δ := by
  obtain ⟨h1, c1, d1, b1, n1, x1, x2, k1, k2, k3, k4, e1⟩ := T11 (s0 := s0) (s1 := s1) (s2 := s2) (s3 := s3) (s4 := s4) (s9 := s9) (s11 := .sh (.int 0)) (s12 := s12) (s13 := s13) hB B (by omega) (by omega) hd
  obtain ⟨h2, c2, d2, b2, n2, y1, y2, l1, l2, l3, l4, e2⟩ := T11 (s0 := s0) (s1 := s1) (s2 := s2) (s3 := s3) (s4 := s4) (s9 := s9) (s11 := .sh (.int 1)) (s12 := x1) (s13 := x2) k1 k2 (by omega) (by omega) hd
  unfold bT at e1 e2
  have e : loopD (sName 11) _ (rangeD 0 2) (S11 s0 s1 s2 s3 s4 ds b hs cl s9 (.sh d.D) s11 s12 s13) = .ok .nx (S11 s0 s1 s2 s3 s4 d2 b2 h2 c2 s9 (.sh d.D) (.sh (.int 1)) y1 y2) := loop_nx (d := .int 0) rfl e1 (loop_nx (d := .int 1) rfl e2 loop_nil)
  exact ⟨S11 s0 s1 s2 s3 s4 d2 b2 h2 c2 s9 (.sh d.D) (.sh (.int 1)) y1 y2, ev_seqK (ev_for (ev_rng1 (ev_cons ev_c ev_nil) rfl rfl) e) (seqK_nx (ev_retK ev_c retK_val))⟩
end Lw
namespace Lw
open PySem L2 DL
theorem hooks_comp : compD (sName 0) (.ret true) (fLst fNil) (rangeD 0 32) [.no] [] = some (lvD (List.replicate 32 [])) := by
  rw [comp_map (g := fun _ => .lst []) _ .no (by rw [rangeD_len]; unfold sizeLine; omega) ?_]
  · rfl
  · intro d hd; rfl
end Lw
namespace Lw
open PySem L2 DL
theorem pick2 {x y : Str} {c : Int} (h1 : gIx (.str x) (.int 0) = some (.val (.str y))) (h : c % 2 = 0) : gIx (.str x) (.int (c % 2)) = some (.val (.str y)) := by rw [h]; exact h1
theorem pick2' {x y : Str} {c : Int} (h1 : gIx (.str x) (.int 1) = some (.val (.str y))) (h : c % 2 = 1) : gIx (.str x) (.int (c % 2)) = some (.val (.str y)) := by rw [h]; exact h1
theorem to11 (ns : List Int) (s1 s2 : Sl) (a t : Int) (h0 : 0 ≤ t) (h1 : t ≤ 15) (x : Sl) : ∃ t', 0 ≤ t' ∧ t' ≤ 15 ∧ q4 [.sh (.scr ns), s1, s2, .sh (.int a), .sh (.int t), x, x, x, x, x, x, x, x, x] = .ok .nx [.sh (.scr ns), s1, s2, .sh (.int a), .sh (.int t'), x, x, x, x, x, x, x, x, x] := by
  have c2 := m_cell ns 2 (by omega)
  have gmin : ∀ t : Int, gMin [.int 15, .int t] = some (.val (.int (imin 15 t))) := fun t => rfl
  have gmax : ∀ t : Int, gMax [.int 0, .int t] = some (.val (.int (imax 0 t))) := fun t => rfl
  have q : gCmp gt (.int (cellv ns 2 / 16 % 3)) (.int 0) = some (.val (.bl (DL.gt (cellv ns 2 / 16 % 3) 0))) := rfl
  unfold q4
  cases hb : DL.gt (cellv ns 2 / 16 % 3) 0 with
  | true =>
    rw [hb] at q
    have b := into_row (a + cellv ns 2 / 48 % 7 - 3)
    refine ⟨imax 0 (imin 15 (a + cellv ns 2 / 48 % 7 - 3)), b.1, b.2, ?_⟩
    refine ev_if (b := true) (δ1 := [.sh (.scr ns), s1, s2, .sh (.int a), .sh (.int t), x, x, x, x, x, x, x, x, x]) ?_ (ev_iteT rfl ?_)
    · walk_at "ev"
    · apply Eq.trans
      walk_at "ev"
  | false =>
    rw [hb] at q
    refine ⟨t, h0, h1, ?_⟩
    refine ev_if (b := false) (δ1 := [.sh (.scr ns), s1, s2, .sh (.int a), .sh (.int t), x, x, x, x, x, x, x, x, x]) ?_ (ev_iteF rfl ev_next)
    walk_at "ev"
theorem last11 (ns : List Int) (r : Str) (a t : Int) (hr : RowOk r) (h0 : 0 ≤ a) (h1 : a ≤ 15) (h2 : 0 ≤ t) (h3 : t ≤ 15) (s2 : Sl) (ds : List Dd) (b : Bd) (hs : List (List Int)) (cl : List Lp) (s9 s11 s12 s13 : Sl) (rest : DM Fl) : ∃ d : Dd, d.ok ∧
    (fSeq q11 (fSeq q12 (fSeq q13 rest))) (S11 (.sh (.scr ns)) (.sh (.str r)) s2 (.sh (.int a)) (.sh (.int t)) ds b hs cl s9 .no s11 s12 s13) = rest (S11 (.sh (.scr ns)) (.sh (.str r)) s2 (.sh (.int a)) (.sh (.int t)) ds b hs cl s9 (.sh d.D) s11 s12 s13) := by
  have c5 := m_cell ns 5 (by omega)
  have z4 : ∀ {x y z w : D}, ([x, y, z, w] : List D).length ≤ sizeLine := fun {_ _ _ _} => by change 4 ≤ sizeLine; unfold sizeLine; omega
  have k11 : q11 (S11 (.sh (.scr ns)) (.sh (.str r)) s2 (.sh (.int a)) (.sh (.int t)) ds b hs cl s9 .no s11 s12 s13) = .ok .nx (S11 (.sh (.scr ns)) (.sh (.str r)) s2 (.sh (.int a)) (.sh (.int t)) ds b hs cl s9 (.sh (Dd.mv r a t).D) s11 s12 s13) :=
    ev_set (ev_tup (ev_cons ev_c (ev_cons (ev_var rfl) (ev_cons (ev_var rfl) (ev_cons (ev_var rfl) ev_nil)))) rfl z4) rfl
  have ct : ∀ (x : Sl), (fCall 2 (fCons (fVar 0) (fCons (fC (.int 5)) fNil)) m_cell_at) (S11 (.sh (.scr ns)) (.sh (.str r)) s2 (.sh (.int a)) (.sh (.int t)) ds b hs cl s9 x s11 s12 s13) = .ok (.val (.int (cellv ns 5))) (S11 (.sh (.scr ns)) (.sh (.str r)) s2 (.sh (.int a)) (.sh (.int t)) ds b hs cl s9 x s11 s12 s13) := fun x =>
    ev_call (ev_cons (ev_var rfl) (ev_cons ev_c ev_nil)) rfl rfl c5
  have tt : ∀ (x : Sl) (m : Int), fTest (fBin (fBin (fCall 2 (fCons (fVar 0) (fCons (fC (.int 5)) fNil)) m_cell_at) (fC (.int 4)) gMod) (fC (.int m)) gEq) (S11 (.sh (.scr ns)) (.sh (.str r)) s2 (.sh (.int a)) (.sh (.int t)) ds b hs cl s9 x s11 s12 s13) = .ok (decide (cellv ns 5 % 4 = m)) (S11 (.sh (.scr ns)) (.sh (.str r)) s2 (.sh (.int a)) (.sh (.int t)) ds b hs cl s9 x s11 s12 s13) := fun x m =>
    ev_test (ev_bin (ev_bin (ct x) ev_c rfl rfl (og_mod rfl)) ev_c rfl rfl (og_eq rfl)) rfl
  by_cases e1 : cellv ns 5 % 4 = 1
  · have n2 : ¬ cellv ns 5 % 4 = 2 := by omega
    refine ⟨dK r a "c", ⟨.inl rfl, hr, h0, h1, by decide +kernel⟩, ?_⟩
    refine ev_seqK k11 (seqK_nx (ev_seqK (ev_if (tt _ 1) (ev_iteT (decide_eq_true e1) (ev_set (ev_tup (ev_cons ev_c (ev_cons (ev_var rfl) (ev_cons (ev_var rfl) (ev_cons ev_c ev_nil)))) rfl z4) rfl))) (seqK_nx (ev_seqK (ev_if (tt _ 2) (ev_iteF (decide_eq_false n2) ev_next)) (seqK_nx rfl)))))
  · by_cases e2 : cellv ns 5 % 4 = 2
    · refine ⟨dT r a "c", ⟨.inr rfl, hr, h0, h1, by decide +kernel⟩, ?_⟩
      refine ev_seqK k11 (seqK_nx (ev_seqK (ev_if (tt _ 1) (ev_iteF (decide_eq_false e1) ev_next)) (seqK_nx (ev_seqK (ev_if (tt _ 2) (ev_iteT (decide_eq_true e2) (ev_set (ev_tup (ev_cons ev_c (ev_cons (ev_var rfl) (ev_cons (ev_var rfl) (ev_cons ev_c ev_nil)))) rfl z4) rfl))) (seqK_nx rfl)))))
    · refine ⟨.mv r a t, ⟨hr, h0, h1, h2, h3⟩, ?_⟩
      exact ev_seqK k11 (seqK_nx (ev_seqK (ev_if (tt _ 1) (ev_iteF (decide_eq_false e1) ev_next)) (seqK_nx (ev_seqK (ev_if (tt _ 2) (ev_iteF (decide_eq_false e2) ev_next)) (seqK_nx rfl)))))
theorem go11 (ns : List Int) (r o : Str) (hr : RowOk r) (ho : RowOk o) (hne : r ≠ o) (g1 : gIx (.str "fb") (.int (cellv ns 0 % 2)) = some (.val (.str r))) (g2 : gIx (.str "bf") (.int (cellv ns 0 % 2)) = some (.val (.str o))) : m_law [.scr ns] = .ok (.bl true) := by
  have c0 := m_cell ns 0 (by omega)
  have c1 := m_cell ns 1 (by omega)
  have c2 := m_cell ns 2 (by omega)
  have c3 := m_cell ns 3 (by omega)
  have c4 := m_cell ns 4 (by omega)
  have ya : (Str.ofString "a") ∈ yarns := by decide +kernel
  have yb : (Str.ofString "b") ∈ yarns := by decide +kernel
  have h0 : 0 ≤ cellv ns 1 % 16 := by omega
  have h1 : cellv ns 1 % 16 ≤ 15 := by omega
  obtain ⟨t, t0, t1, e4⟩ := to11 ns (.sh (.str r)) (.sh (.str o)) (cellv ns 1 % 16) (cellv ns 2 % 16) (by omega) (by omega) .no
  have p4 : (cellv ns 3 % 5).toNat ≤ 4 := by omega
  have q4' : (cellv ns 4 % 5).toNat ≤ 4 := by omega
  have hg := good11 (r := r) (o := o) (a := cellv ns 1 % 16) (t := t) (a_ok hr h0 h1 ya) (a_ok ho t0 t1 yb) hne p4 q4'
  have cA := compA r (cellv ns 1 % 16) (cellv ns 3 % 5).toNat (by omega)
  have cB := compB o t (cellv ns 4 % 5).toNat (by omega)
  have sm3 : small62 (cellv ns 3 % 5) = true := og_small (by omega) (by omega)
  have sm4 : small62 (cellv ns 4 % 5) = true := og_small (by omega) (by omega)
  generalize hA : List.replicate (cellv ns 3 % 5).toNat (dT r (cellv ns 1 % 16) (Str.ofString "a")) = A at *
  generalize hBB : List.replicate (cellv ns 4 % 5).toNat (dT o t (Str.ofString "b")) = BB at *
  have lA : A.length ≤ 4 := by rw [← hA, List.length_replicate]; exact p4
  have lB : BB.length ≤ 4 := by rw [← hBB, List.length_replicate]; exact q4'
  obtain ⟨hs, cl, b, y9, hB, B, eL⟩ := L11 (s0 := .sh (.scr ns)) (s1 := .sh (.str r)) (s2 := .sh (.str o)) (s3 := .sh (.int (cellv ns 1 % 16))) (s4 := .sh (.int t)) (s10 := .no) (s11 := .no) (s12 := .no) (s13 := .no) (.sh (.lst (dsD (A ++ BB)))) (A ++ BB) (List.replicate 32 []) [] [] ⟨[], [], [], []⟩ 0 .no hg .start BS.start (by rw [List.length_append]; omega) (by rw [List.length_append]; change 0 + _ < _; omega)
  rw [List.nil_append] at B
  obtain ⟨d, hd, eR⟩ := last11 ns r (cellv ns 1 % 16) t hr h0 h1 t0 t1 (.sh (.str o)) (A ++ BB) b hs cl y9 .no .no .no (fSeq (fFor (fRng1 (fCons (fC (.int 2)) fNil)) (sName 11) (fSeq (fSet 12 (fCallN 2 [0] (fCons (fVar 7) (fCons (fVar 10) fNil)) m_word))
    (fSeq (fSet 13 (fCallW 6 2 (fCons (fVar 10) fNil) m_act))
    (fSeq (fIf (fTest (fBin (fVar 12) (fC .non) gIsN)) (fSeq (fIf (fTest (fBin (fBin (fVar 13) (fC (.int 0)) gIx) (fC (.str "done")) gNe)) (fRet (fC (.bl false))) fNext)
    (fSeq (fDrop (fCallN 3 [0, 1] (fCons (fVar 7) (fCons (fVar 8) (fCons (fVar 10) fNil))) m_do))
    (fSet 5 (fBin (fVar 5) (fLst (fCons (fVar 10) fNil)) gAdd)))) (fIf (fOrT (fTest (fBin (fBin (fVar 13) (fC (.int 0)) gIx) (fVar 12) gNe)) (fTest (fBin (fBin (fVar 13) (fC (.int 1)) gIx) (fC (.bl true)) gIsNotB))) (fRet (fC (.bl false))) fNext))
    (fIf (fNotT (fTest (fLend (fCall 4 (fCons (fVar 6) (fCons (fVar 7) (fCons (fVar 8) (fCons (fVar 5) fNil)))) m_stands)))) (fRet (fC (.bl false))) fNext))))) (fRet (fC (.bl true))))
  obtain ⟨δ, eE⟩ := end11 (.sh (.scr ns)) (.sh (.str r)) (.sh (.str o)) (.sh (.int (cellv ns 1 % 16))) (.sh (.int t)) y9 .no .no .no (A ++ BB) b hs cl d _ hB B (by rw [List.length_append]; omega) (by rw [List.length_append]; omega) hd
  have ga : gAdd (.lst (dsD A)) (.lst (dsD BB)) = some (.own (dsD (A ++ BB))) := by
    rw [dsD_app]
    exact og_addL (by rw [dsD_len, dsD_len]; unfold sizeLine; omega)
  have e5 : q5 [.sh (.scr ns), .sh (.str r), .sh (.str o), .sh (.int (cellv ns 1 % 16)), .sh (.int t), .no, .no, .no, .no, .no, .no, .no, .no, .no] = .ok .nx [.sh (.scr ns), .sh (.str r), .sh (.str o), .sh (.int (cellv ns 1 % 16)), .sh (.int t), .sh (.lst (dsD A)), .no, .no, .no, .no, .no, .no, .no, .no] :=
    ev_set (ev_lc (ev_rng1 (ev_cons (ev_bin (ev_call (ev_cons (ev_var rfl) (ev_cons ev_c ev_nil)) rfl rfl c3) ev_c rfl rfl (og_mod rfl)) ev_nil) rfl sm3) cA) rfl
  have e6 : q6 [.sh (.scr ns), .sh (.str r), .sh (.str o), .sh (.int (cellv ns 1 % 16)), .sh (.int t), .sh (.lst (dsD A)), .no, .no, .no, .no, .no, .no, .no, .no] = .ok .nx [.sh (.scr ns), .sh (.str r), .sh (.str o), .sh (.int (cellv ns 1 % 16)), .sh (.int t), .sh (.lst (dsD (A ++ BB))), .no, .no, .no, .no, .no, .no, .no, .no] :=
    ev_set (ev_bin (ev_var rfl) (ev_lc (ev_rng1 (ev_cons (ev_bin (ev_call (ev_cons (ev_var rfl) (ev_cons ev_c ev_nil)) rfl rfl c4) ev_c rfl rfl (og_mod rfl)) ev_nil) rfl sm4) cB) rfl rfl ga) rfl
  have e8 : q8 [.sh (.scr ns), .sh (.str r), .sh (.str o), .sh (.int (cellv ns 1 % 16)), .sh (.int t), .sh (.lst (dsD (A ++ BB))), .ob [] [] [] [], .no, .no, .no, .no, .no, .no, .no] = .ok .nx [.sh (.scr ns), .sh (.str r), .sh (.str o), .sh (.int (cellv ns 1 % 16)), .sh (.int t), .sh (.lst (dsD (A ++ BB))), .ob [] [] [] [], .ow (lvD (List.replicate 32 [])), .no, .no, .no, .no, .no, .no] :=
    ev_setO (ev_lc (ev_rng1 (ev_cons ev_c ev_nil) rfl rfl) hooks_comp)
  unfold bD at eL
  unfold m_law b_law
  apply ev_run
  iterate 4
    apply ev_seqK
    · walk_at "ev"
    apply seqK_nx
  refine ev_seqK e4 (seqK_nx (ev_seqK e5 (seqK_nx (ev_seqK e6 (seqK_nx (ev_seqK (R1 := .ok .nx _) rfl (seqK_nx (ev_seqK e8 (seqK_nx (ev_seqK (ev_setO (ev_lst ev_nil rfl (by change 0 ≤ sizeLine; unfold sizeLine; omega))) (seqK_nx (ev_seqK (ev_for (ev_it (ev_var rfl) rfl rfl) eL) (seqK_nx (eR.trans eE))))))))))))))
theorem law_true (ns : List Int) (_ : ns.length ≤ 63) : m_law [.scr ns] = .ok (.bl true) := by
  have : cellv ns 0 % 2 = 0 ∨ cellv ns 0 % 2 = 1 := by omega
  rcases this with h | h
  · exact go11 ns (Str.ofString "f") (Str.ofString "b") (.inl rfl) (.inr rfl) (by decide +kernel) (pick2 (by kernel_rfl) h) (pick2 (by kernel_rfl) h)
  · exact go11 ns (Str.ofString "b") (Str.ofString "f") (.inr rfl) (.inl rfl) (by decide +kernel) (pick2' (by kernel_rfl) h) (pick2' (by kernel_rfl) h)
end Lw
namespace Lw
open PySem L2 DL PyProof.Rows
theorem len1 : ∀ (us : List Value), us.length = 1 → ∃ x0, us = [x0]
  | [x0], _ => ⟨x0, rfl⟩
theorem len2 : ∀ (us : List Value), us.length = 2 → ∃ x0 x1, us = [x0, x1]
  | [x0, x1], _ => ⟨x0, x1, rfl⟩
theorem len3 : ∀ (us : List Value), us.length = 3 → ∃ x0 x1 x2, us = [x0, x1, x2]
  | [x0, x1, x2], _ => ⟨x0, x1, x2, rfl⟩
theorem len4 : ∀ (us : List Value), us.length = 4 → ∃ x0 x1 x2 x3, us = [x0, x1, x2, x3]
  | [x0, x1, x2, x3], _ => ⟨x0, x1, x2, x3, rfl⟩
theorem all_mk {l : PySem.W.OpenLaw} {w : World} {K : PySem.W.Frag} {h : Heap} {mg : Str → Option Value} {fa : Addr} (X : K.In h) (G : h.Ns mainGlobals mg) (hfa : mg "law" = some (.ref fa))
    {C : Addr}
    {f0 : Addr} {od0 an0 : Option Addr} {sl0 : Array (Option Value)} {oc0 kV0 dc0 pm0 cd0 ct0 : Value}
    {f1 : Addr} {od1 an1 : Option Addr} {sl1 : Array (Option Value)} {oc1 kV1 dc1 pm1 cd1 ct1 : Value}
    {f2 : Addr} {od2 an2 : Option Addr} {sl2 : Array (Option Value)} {oc2 kV2 dc2 pm2 cd2 ct2 : Value}
    {f3 : Addr} {od3 an3 : Option Addr} {sl3 : Array (Option Value)} {oc3 kV3 dc3 pm3 cd3 ct3 : Value}
    {f4 : Addr} {od4 an4 : Option Addr} {sl4 : Array (Option Value)} {oc4 kV4 dc4 pm4 cd4 ct4 : Value}
    {f5 : Addr} {od5 an5 : Option Addr} {sl5 : Array (Option Value)} {oc5 kV5 dc5 pm5 cd5 ct5 : Value}
    {f6 : Addr} {od6 an6 : Option Addr} {sl6 : Array (Option Value)} {oc6 kV6 dc6 pm6 cd6 ct6 : Value}
    {f7 : Addr} {od7 an7 : Option Addr} {sl7 : Array (Option Value)} {oc7 kV7 dc7 pm7 cd7 ct7 : Value}
    {f8 : Addr} {od8 an8 : Option Addr} {sl8 : Array (Option Value)} {oc8 kV8 dc8 pm8 cd8 ct8 : Value}
    {f9 : Addr} {od9 an9 : Option Addr} {sl9 : Array (Option Value)} {oc9 kV9 dc9 pm9 cd9 ct9 : Value}
    {f10 : Addr} {od10 an10 : Option Addr} {sl10 : Array (Option Value)} {oc10 kV10 dc10 pm10 cd10 ct10 : Value}
    {f11 : Addr} {od11 an11 : Option Addr} {sl11 : Array (Option Value)} {oc11 kV11 dc11 pm11 cd11 ct11 : Value}
    {f12 : Addr} {od12 an12 : Option Addr} {sl12 : Array (Option Value)} {oc12 kV12 dc12 pm12 cd12 ct12 : Value}
    {f13 : Addr} {od13 an13 : Option Addr} {sl13 : Array (Option Value)} {oc13 kV13 dc13 pm13 cd13 ct13 : Value}
    {f14 : Addr} {od14 an14 : Option Addr} {sl14 : Array (Option Value)} {oc14 kV14 dc14 pm14 cd14 ct14 : Value}
    {f15 : Addr} {od15 an15 : Option Addr} {sl15 : Array (Option Value)} {oc15 kV15 dc15 pm15 cd15 ct15 : Value}
    {f16 : Addr} {od16 an16 : Option Addr} {sl16 : Array (Option Value)} {oc16 kV16 dc16 pm16 cd16 ct16 : Value}
    {f17 : Addr} {od17 an17 : Option Addr} {sl17 : Array (Option Value)} {oc17 kV17 dc17 pm17 cd17 ct17 : Value}
    {f18 : Addr} {od18 an18 : Option Addr} {sl18 : Array (Option Value)} {oc18 kV18 dc18 pm18 cd18 ct18 : Value}
    {f19 : Addr} {od19 an19 : Option Addr} {sl19 : Array (Option Value)} {oc19 kV19 dc19 pm19 cd19 ct19 : Value}
    {f20 : Addr} {od20 an20 : Option Addr} {sl20 : Array (Option Value)} {oc20 kV20 dc20 pm20 cd20 ct20 : Value}
    {f21 : Addr} {od21 an21 : Option Addr} {sl21 : Array (Option Value)} {oc21 kV21 dc21 pm21 cd21 ct21 : Value}
    {f22 : Addr} {od22 an22 : Option Addr} {sl22 : Array (Option Value)} {oc22 kV22 dc22 pm22 cd22 ct22 : Value}
    {f23 : Addr} {od23 an23 : Option Addr} {sl23 : Array (Option Value)} {oc23 kV23 dc23 pm23 cd23 ct23 : Value}
    {a_ACROSS : Addr}
    {t_FARTHEST : Tok}
    {t_MOST_BORNE : Tok}
    {a_WAYS : Addr}
    {C_BedFault : Addr}
    {C_Empty : Addr}
    {C_LoopError : Addr}
    {C_NothingDone : Addr}
    {C_Overfull : Addr}
    {C_TooFar : Addr}
    (aC : PySem.W.nsIn K mainGlobals "Bed" = some (some (.ref C)))
    (a0 : PySem.W.findIn K (.ref C) "__init__" = some (some (.ref f0))) (i0 : PySem.W.isFn K (.ref f0) = true) (l0 : K.lookup f0 = some ⟨oc0, od0, .func (PySem.W.fnOf "__init__" "Bed.__init__" (defArgs s_Bed) (defBody s_Bed) (defScope s_Bed) .none kV0 dc0 pm0 an0 cd0 ct0), sl0⟩) (c0 : PySem.W.codeIn K cd0 "Bed.__init__" = true) (k0 : PySem.W.keepIn K (.ref f0) = true)
    (a1 : PySem.W.nsIn K mainGlobals "_law_cell_at" = some (some (.ref f1))) (l1 : K.lookup f1 = some ⟨oc1, od1, .func (PySem.W.fnOf "_law_cell_at" "_law_cell_at" (defArgs s_cell_at) (defBody s_cell_at) (defScope s_cell_at) .none kV1 dc1 pm1 an1 cd1 ct1), sl1⟩) (c1 : PySem.W.codeIn K cd1 "_law_cell_at" = true) (k1 : PySem.W.keepIn K (.ref f1) = true)
    (a2 : PySem.W.findIn K (.ref C) "loops_at" = some (some (.ref f2))) (i2 : PySem.W.isFn K (.ref f2) = true) (l2 : K.lookup f2 = some ⟨oc2, od2, .func (PySem.W.fnOf "loops_at" "Bed.loops_at" (defArgs s_Bed_loops_at) (defBody s_Bed_loops_at) (defScope s_Bed_loops_at) .none kV2 dc2 pm2 an2 cd2 ct2), sl2⟩) (c2 : PySem.W.codeIn K cd2 "Bed.loops_at" = true) (k2 : PySem.W.keepIn K (.ref f2) = true)
    (a3 : PySem.W.findIn K (.ref C) "keep" = some (some (.ref f3))) (i3 : PySem.W.isFn K (.ref f3) = true) (l3 : K.lookup f3 = some ⟨oc3, od3, .func (PySem.W.fnOf "keep" "Bed.keep" (defArgs s_Bed_keep) (defBody s_Bed_keep) (defScope s_Bed_keep) .none kV3 dc3 pm3 an3 cd3 ct3), sl3⟩) (c3 : PySem.W.codeIn K cd3 "Bed.keep" = true) (k3 : PySem.W.keepIn K (.ref f3) = true)
    (a4 : PySem.W.findIn K (.ref C) "move" = some (some (.ref f4))) (i4 : PySem.W.isFn K (.ref f4) = true) (l4 : K.lookup f4 = some ⟨oc4, od4, .func (PySem.W.fnOf "move" "Bed.move" (defArgs s_Bed_move) (defBody s_Bed_move) (defScope s_Bed_move) .none kV4 dc4 pm4 an4 cd4 ct4), sl4⟩) (c4 : PySem.W.codeIn K cd4 "Bed.move" = true) (k4 : PySem.W.keepIn K (.ref f4) = true)
    (a5 : PySem.W.findIn K (.ref C) "new_loop" = some (some (.ref f5))) (i5 : PySem.W.isFn K (.ref f5) = true) (l5 : K.lookup f5 = some ⟨oc5, od5, .func (PySem.W.fnOf "new_loop" "Bed.new_loop" (defArgs s_Bed_new_loop) (defBody s_Bed_new_loop) (defScope s_Bed_new_loop) .none kV5 dc5 pm5 an5 cd5 ct5), sl5⟩) (c5 : PySem.W.codeIn K cd5 "Bed.new_loop" = true) (k5 : PySem.W.keepIn K (.ref f5) = true)
    (a6 : PySem.W.findIn K (.ref C) "knit" = some (some (.ref f6))) (i6 : PySem.W.isFn K (.ref f6) = true) (l6 : K.lookup f6 = some ⟨oc6, od6, .func (PySem.W.fnOf "knit" "Bed.knit" (defArgs s_Bed_knit) (defBody s_Bed_knit) (defScope s_Bed_knit) .none kV6 dc6 pm6 an6 cd6 ct6), sl6⟩) (c6 : PySem.W.codeIn K cd6 "Bed.knit" = true) (k6 : PySem.W.keepIn K (.ref f6) = true)
    (a7 : PySem.W.findIn K (.ref C) "tuck" = some (some (.ref f7))) (i7 : PySem.W.isFn K (.ref f7) = true) (l7 : K.lookup f7 = some ⟨oc7, od7, .func (PySem.W.fnOf "tuck" "Bed.tuck" (defArgs s_Bed_tuck) (defBody s_Bed_tuck) (defScope s_Bed_tuck) .none kV7 dc7 pm7 an7 cd7 ct7), sl7⟩) (c7 : PySem.W.codeIn K cd7 "Bed.tuck" = true) (k7 : PySem.W.keepIn K (.ref f7) = true)
    (a8 : PySem.W.findIn K (.ref C) "act" = some (some (.ref f8))) (i8 : PySem.W.isFn K (.ref f8) = true) (l8 : K.lookup f8 = some ⟨oc8, od8, .func (PySem.W.fnOf "act" "Bed.act" (defArgs s_Bed_act) (defBody s_Bed_act) (defScope s_Bed_act) .none kV8 dc8 pm8 an8 cd8 ct8), sl8⟩) (c8 : PySem.W.codeIn K cd8 "Bed.act" = true) (k8 : PySem.W.keepIn K (.ref f8) = true)
    (a9 : PySem.W.nsIn K mainGlobals "_law_at" = some (some (.ref f9))) (l9 : K.lookup f9 = some ⟨oc9, od9, .func (PySem.W.fnOf "_law_at" "_law_at" (defArgs s_at) (defBody s_at) (defScope s_at) .none kV9 dc9 pm9 an9 cd9 ct9), sl9⟩) (c9 : PySem.W.codeIn K cd9 "_law_at" = true) (k9 : PySem.W.keepIn K (.ref f9) = true)
    (a10 : PySem.W.nsIn K mainGlobals "_law_do" = some (some (.ref f10))) (l10 : K.lookup f10 = some ⟨oc10, od10, .func (PySem.W.fnOf "_law_do" "_law_do" (defArgs s_do) (defBody s_do) (defScope s_do) .none kV10 dc10 pm10 an10 cd10 ct10), sl10⟩) (c10 : PySem.W.codeIn K cd10 "_law_do" = true) (k10 : PySem.W.keepIn K (.ref f10) = true)
    (a11 : PySem.W.nsIn K mainGlobals "_law_hook" = some (some (.ref f11))) (l11 : K.lookup f11 = some ⟨oc11, od11, .func (PySem.W.fnOf "_law_hook" "_law_hook" (defArgs s_hook) (defBody s_hook) (defScope s_hook) .none kV11 dc11 pm11 an11 cd11 ct11), sl11⟩) (c11 : PySem.W.codeIn K cd11 "_law_hook" = true) (k11 : PySem.W.keepIn K (.ref f11) = true)
    (a12 : PySem.W.nsIn K mainGlobals "_law_word" = some (some (.ref f12))) (l12 : K.lookup f12 = some ⟨oc12, od12, .func (PySem.W.fnOf "_law_word" "_law_word" (defArgs s_word) (defBody s_word) (defScope s_word) .none kV12 dc12 pm12 an12 cd12 ct12), sl12⟩) (c12 : PySem.W.codeIn K cd12 "_law_word" = true) (k12 : PySem.W.keepIn K (.ref f12) = true)
    (a13 : PySem.W.nsIn K mainGlobals "_law_own" = some (some (.ref f13))) (l13 : K.lookup f13 = some ⟨oc13, od13, .func (PySem.W.fnOf "_law_own" "_law_own" (defArgs s_own) (defBody s_own) (defScope s_own) .none kV13 dc13 pm13 an13 cd13 ct13), sl13⟩) (c13 : PySem.W.codeIn K cd13 "_law_own" = true) (k13 : PySem.W.keepIn K (.ref f13) = true)
    (a14 : PySem.W.nsIn K mainGlobals "_law_act" = some (some (.ref f14))) (l14 : K.lookup f14 = some ⟨oc14, od14, .func (PySem.W.fnOf "_law_act" "_law_act" (defArgs s_act) (defBody s_act) (defScope s_act) .none kV14 dc14 pm14 an14 cd14 ct14), sl14⟩) (c14 : PySem.W.codeIn K cd14 "_law_act" = true) (k14 : PySem.W.keepIn K (.ref f14) = true)
    (a15 : PySem.W.nsIn K mainGlobals "_law_whole" = some (some (.ref f15))) (l15 : K.lookup f15 = some ⟨oc15, od15, .func (PySem.W.fnOf "_law_whole" "_law_whole" (defArgs s_whole) (defBody s_whole) (defScope s_whole) .none kV15 dc15 pm15 an15 cd15 ct15), sl15⟩) (c15 : PySem.W.codeIn K cd15 "_law_whole" = true) (k15 : PySem.W.keepIn K (.ref f15) = true)
    (a16 : PySem.W.nsIn K mainGlobals "_law_loop" = some (some (.ref f16))) (l16 : K.lookup f16 = some ⟨oc16, od16, .func (PySem.W.fnOf "_law_loop" "_law_loop" (defArgs s_loop) (defBody s_loop) (defScope s_loop) .none kV16 dc16 pm16 an16 cd16 ct16), sl16⟩) (c16 : PySem.W.codeIn K cd16 "_law_loop" = true) (k16 : PySem.W.keepIn K (.ref f16) = true)
    (a17 : PySem.W.nsIn K mainGlobals "_law_alike_cloth" = some (some (.ref f17))) (l17 : K.lookup f17 = some ⟨oc17, od17, .func (PySem.W.fnOf "_law_alike_cloth" "_law_alike_cloth" (defArgs s_alike_cloth) (defBody s_alike_cloth) (defScope s_alike_cloth) .none kV17 dc17 pm17 an17 cd17 ct17), sl17⟩) (c17 : PySem.W.codeIn K cd17 "_law_alike_cloth" = true) (k17 : PySem.W.keepIn K (.ref f17) = true)
    (a18 : PySem.W.findIn K (.ref C) "done" = some (some (.ref f18))) (i18 : PySem.W.isFn K (.ref f18) = true) (l18 : K.lookup f18 = some ⟨oc18, od18, .func (PySem.W.fnOf "done" "Bed.done" (defArgs s_Bed_done) (defBody s_Bed_done) (defScope s_Bed_done) .none kV18 dc18 pm18 an18 cd18 ct18), sl18⟩) (c18 : PySem.W.codeIn K cd18 "Bed.done" = true) (k18 : PySem.W.keepIn K (.ref f18) = true)
    (a19 : PySem.W.nsIn K mainGlobals "_law_alike_hook" = some (some (.ref f19))) (l19 : K.lookup f19 = some ⟨oc19, od19, .func (PySem.W.fnOf "_law_alike_hook" "_law_alike_hook" (defArgs s_alike_hook) (defBody s_alike_hook) (defScope s_alike_hook) .none kV19 dc19 pm19 an19 cd19 ct19), sl19⟩) (c19 : PySem.W.codeIn K cd19 "_law_alike_hook" = true) (k19 : PySem.W.keepIn K (.ref f19) = true)
    (a20 : PySem.W.findIn K (.ref C) "cloth" = some (some (.ref f20))) (i20 : PySem.W.isFn K (.ref f20) = true) (l20 : K.lookup f20 = some ⟨oc20, od20, .func (PySem.W.fnOf "cloth" "Bed.cloth" (defArgs s_Bed_cloth) (defBody s_Bed_cloth) (defScope s_Bed_cloth) .none kV20 dc20 pm20 an20 cd20 ct20), sl20⟩) (c20 : PySem.W.codeIn K cd20 "Bed.cloth" = true) (k20 : PySem.W.keepIn K (.ref f20) = true)
    (a21 : PySem.W.findIn K (.ref C) "hook" = some (some (.ref f21))) (i21 : PySem.W.isFn K (.ref f21) = true) (l21 : K.lookup f21 = some ⟨oc21, od21, .func (PySem.W.fnOf "hook" "Bed.hook" (defArgs s_Bed_hook) (defBody s_Bed_hook) (defScope s_Bed_hook) .none kV21 dc21 pm21 an21 cd21 ct21), sl21⟩) (c21 : PySem.W.codeIn K cd21 "Bed.hook" = true) (k21 : PySem.W.keepIn K (.ref f21) = true)
    (a22 : PySem.W.nsIn K mainGlobals "_law_stands" = some (some (.ref f22))) (l22 : K.lookup f22 = some ⟨oc22, od22, .func (PySem.W.fnOf "_law_stands" "_law_stands" (defArgs s_stands) (defBody s_stands) (defScope s_stands) .none kV22 dc22 pm22 an22 cd22 ct22), sl22⟩) (c22 : PySem.W.codeIn K cd22 "_law_stands" = true) (k22 : PySem.W.keepIn K (.ref f22) = true)
    (a23 : PySem.W.nsIn K mainGlobals "law" = some (some (.ref f23))) (l23 : K.lookup f23 = some ⟨oc23, od23, .func (PySem.W.fnOf "law" "law" (defArgs s_law) (defBody s_law) (defScope s_law) .none kV23 dc23 pm23 an23 cd23 ct23), sl23⟩) (c23 : PySem.W.codeIn K cd23 "law" = true) (k23 : PySem.W.keepIn K (.ref f23) = true)
    (z_ValueError : PySem.W.nsIn K mainGlobals "ValueError" = some none)
    (z_abs : PySem.W.nsIn K mainGlobals "abs" = some none)
    (z_all : PySem.W.nsIn K mainGlobals "all" = some none)
    (z_bool : PySem.W.nsIn K mainGlobals "bool" = some none)
    (z_int : PySem.W.nsIn K mainGlobals "int" = some none)
    (z_isinstance : PySem.W.nsIn K mainGlobals "isinstance" = some none)
    (z_len : PySem.W.nsIn K mainGlobals "len" = some none)
    (z_list : PySem.W.nsIn K mainGlobals "list" = some none)
    (z_max : PySem.W.nsIn K mainGlobals "max" = some none)
    (z_min : PySem.W.nsIn K mainGlobals "min" = some none)
    (z_range : PySem.W.nsIn K mainGlobals "range" = some none)
    (z_str : PySem.W.nsIn K mainGlobals "str" = some none)
    (z_tuple : PySem.W.nsIn K mainGlobals "tuple" = some none)
    (pgB : PySem.W.plainGet K C Str.empty = true) (hdB : PySem.W.hasDictIn K C = true) (poB : PySem.W.plainOver K C = true) (saB : PySem.W.findIn K (.ref C) "__setattr__" = some (some (.builtin "object.__setattr__"))) (mkB : PySem.W.makesIn K C = true) (kcB : PySem.W.keepIn K (.ref C) = true) (nB1 : PySem.W.findIn K (.ref C) "borne" = some none) (nB2 : PySem.W.findIn K (.ref C) "knitted" = some none) (nB3 : PySem.W.findIn K (.ref C) "past" = some none)
    (g_ACROSS : PySem.W.nsIn K mainGlobals "ACROSS" = some (some (.ref a_ACROSS)))
    (h_ACROSS : PyProof.Rows.KTD.tabLook (PyProof.Rows.KTD.datLooks fun b => K.lookup b) (fun b => K.lookup b) a_ACROSS (tabDS c_ACROSS) = true)
    (g_FARTHEST : PySem.W.nsIn K mainGlobals "FARTHEST" = some (some (.int 2 t_FARTHEST)))
    (g_MOST_BORNE : PySem.W.nsIn K mainGlobals "MOST_BORNE" = some (some (.int 4 t_MOST_BORNE)))
    (g_WAYS : PySem.W.nsIn K mainGlobals "WAYS" = some (some (.ref a_WAYS)))
    (h_WAYS : PyProof.Rows.KTD.tabLook (PyProof.Rows.KTD.datLooks fun b => K.lookup b) (fun b => K.lookup b) a_WAYS (tabDS c_WAYS) = true)
    (nc_BedFault : PySem.W.nsIn K mainGlobals "BedFault" = some (some (.ref C_BedFault)))
    (nc_Empty : PySem.W.nsIn K mainGlobals "Empty" = some (some (.ref C_Empty)))
    (nc_LoopError : PySem.W.nsIn K mainGlobals "LoopError" = some (some (.ref C_LoopError)))
    (nc_NothingDone : PySem.W.nsIn K mainGlobals "NothingDone" = some (some (.ref C_NothingDone)))
    (nc_Overfull : PySem.W.nsIn K mainGlobals "Overfull" = some (some (.ref C_Overfull)))
    (nc_TooFar : PySem.W.nsIn K mainGlobals "TooFar" = some (some (.ref C_TooFar)))
    (xq_Empty : PySem.W.excIn K C_Empty bmV "ValueError.__new__" = true)
    (xk_Empty : excK K C_Empty = true)
    (xm_Empty_BedFault : PySem.W.exmOne K (.ref C_Empty) (.ref C_BedFault) = some true)
    (xi_Empty_BedFault : PySem.W.kitOne K (.ref C_Empty) (.ref C_BedFault) = some true)
    (xm_Empty_Empty : PySem.W.exmOne K (.ref C_Empty) (.ref C_Empty) = some true)
    (xi_Empty_Empty : PySem.W.kitOne K (.ref C_Empty) (.ref C_Empty) = some true)
    (xm_Empty_LoopError : PySem.W.exmOne K (.ref C_Empty) (.ref C_LoopError) = some true)
    (xi_Empty_LoopError : PySem.W.kitOne K (.ref C_Empty) (.ref C_LoopError) = some true)
    (xm_Empty_NothingDone : PySem.W.exmOne K (.ref C_Empty) (.ref C_NothingDone) = some false)
    (xi_Empty_NothingDone : PySem.W.kitOne K (.ref C_Empty) (.ref C_NothingDone) = some false)
    (xm_Empty_Overfull : PySem.W.exmOne K (.ref C_Empty) (.ref C_Overfull) = some false)
    (xi_Empty_Overfull : PySem.W.kitOne K (.ref C_Empty) (.ref C_Overfull) = some false)
    (xm_Empty_TooFar : PySem.W.exmOne K (.ref C_Empty) (.ref C_TooFar) = some false)
    (xi_Empty_TooFar : PySem.W.kitOne K (.ref C_Empty) (.ref C_TooFar) = some false)
    (xv_Empty : PySem.W.kitOne K (.ref C_Empty) (.type "ValueError") = some true)
    (xq_Overfull : PySem.W.excIn K C_Overfull bmV "ValueError.__new__" = true)
    (xk_Overfull : excK K C_Overfull = true)
    (xm_Overfull_BedFault : PySem.W.exmOne K (.ref C_Overfull) (.ref C_BedFault) = some true)
    (xi_Overfull_BedFault : PySem.W.kitOne K (.ref C_Overfull) (.ref C_BedFault) = some true)
    (xm_Overfull_Empty : PySem.W.exmOne K (.ref C_Overfull) (.ref C_Empty) = some false)
    (xi_Overfull_Empty : PySem.W.kitOne K (.ref C_Overfull) (.ref C_Empty) = some false)
    (xm_Overfull_LoopError : PySem.W.exmOne K (.ref C_Overfull) (.ref C_LoopError) = some true)
    (xi_Overfull_LoopError : PySem.W.kitOne K (.ref C_Overfull) (.ref C_LoopError) = some true)
    (xm_Overfull_NothingDone : PySem.W.exmOne K (.ref C_Overfull) (.ref C_NothingDone) = some false)
    (xi_Overfull_NothingDone : PySem.W.kitOne K (.ref C_Overfull) (.ref C_NothingDone) = some false)
    (xm_Overfull_Overfull : PySem.W.exmOne K (.ref C_Overfull) (.ref C_Overfull) = some true)
    (xi_Overfull_Overfull : PySem.W.kitOne K (.ref C_Overfull) (.ref C_Overfull) = some true)
    (xm_Overfull_TooFar : PySem.W.exmOne K (.ref C_Overfull) (.ref C_TooFar) = some false)
    (xi_Overfull_TooFar : PySem.W.kitOne K (.ref C_Overfull) (.ref C_TooFar) = some false)
    (xv_Overfull : PySem.W.kitOne K (.ref C_Overfull) (.type "ValueError") = some true)
    (xq_TooFar : PySem.W.excIn K C_TooFar bmV "ValueError.__new__" = true)
    (xk_TooFar : excK K C_TooFar = true)
    (xm_TooFar_BedFault : PySem.W.exmOne K (.ref C_TooFar) (.ref C_BedFault) = some true)
    (xi_TooFar_BedFault : PySem.W.kitOne K (.ref C_TooFar) (.ref C_BedFault) = some true)
    (xm_TooFar_Empty : PySem.W.exmOne K (.ref C_TooFar) (.ref C_Empty) = some false)
    (xi_TooFar_Empty : PySem.W.kitOne K (.ref C_TooFar) (.ref C_Empty) = some false)
    (xm_TooFar_LoopError : PySem.W.exmOne K (.ref C_TooFar) (.ref C_LoopError) = some true)
    (xi_TooFar_LoopError : PySem.W.kitOne K (.ref C_TooFar) (.ref C_LoopError) = some true)
    (xm_TooFar_NothingDone : PySem.W.exmOne K (.ref C_TooFar) (.ref C_NothingDone) = some false)
    (xi_TooFar_NothingDone : PySem.W.kitOne K (.ref C_TooFar) (.ref C_NothingDone) = some false)
    (xm_TooFar_Overfull : PySem.W.exmOne K (.ref C_TooFar) (.ref C_Overfull) = some false)
    (xi_TooFar_Overfull : PySem.W.kitOne K (.ref C_TooFar) (.ref C_Overfull) = some false)
    (xm_TooFar_TooFar : PySem.W.exmOne K (.ref C_TooFar) (.ref C_TooFar) = some true)
    (xi_TooFar_TooFar : PySem.W.kitOne K (.ref C_TooFar) (.ref C_TooFar) = some true)
    (xv_TooFar : PySem.W.kitOne K (.ref C_TooFar) (.type "ValueError") = some true) :
    ∃ fd : FuncData, (∀ (s : Shared) (v : Value), BindsTo s fd ⟨[v], []⟩ [("script", v)]) ∧ ∀ base : Heap, K.In base → base.Ns mainGlobals mg → FnOk l.prog w K mg base CX0 6 fa fd ["script"] (spP K (fun _ => .none) 1 m_law) := by
  have e := hfa.symm.trans (PySem.W.mg_of X G a23)
  cases e
  have T : Txt K mg := ⟨PySem.W.mg_none_of X G z_ValueError, PySem.W.mg_none_of X G z_abs, PySem.W.mg_none_of X G z_all, PySem.W.mg_none_of X G z_bool, PySem.W.mg_none_of X G z_int, PySem.W.mg_none_of X G z_isinstance, PySem.W.mg_none_of X G z_len, PySem.W.mg_none_of X G z_list, PySem.W.mg_none_of X G z_max, PySem.W.mg_none_of X G z_min, PySem.W.mg_none_of X G z_range, PySem.W.mg_none_of X G z_str, PySem.W.mg_none_of X G z_tuple, glob_tabS (PySem.W.mg_of X G g_ACROSS) h_ACROSS, glob_int (PySem.W.mg_of X G g_FARTHEST), glob_int (PySem.W.mg_of X G g_MOST_BORNE), glob_tabS (PySem.W.mg_of X G g_WAYS) h_WAYS, ⟨C_Empty, PySem.W.mg_of X G nc_Empty, xq_Empty⟩, ⟨C_Overfull, PySem.W.mg_of X G nc_Overfull, xq_Overfull⟩, ⟨C_TooFar, PySem.W.mg_of X G nc_TooFar, xq_TooFar⟩, ⟨C_BedFault, PySem.W.mg_of X G nc_BedFault, (tabX_cons (PySem.W.mg_of X G nc_Empty) nc_Empty xm_Empty_BedFault (tabX_cons (PySem.W.mg_of X G nc_Overfull) nc_Overfull xm_Overfull_BedFault (tabX_cons (PySem.W.mg_of X G nc_TooFar) nc_TooFar xm_TooFar_BedFault tabX_nil))), (tabI_cons nc_Empty xk_Empty xi_Empty_BedFault (tabI_cons nc_Overfull xk_Overfull xi_Overfull_BedFault (tabI_cons nc_TooFar xk_TooFar xi_TooFar_BedFault tabI_nil)))⟩, ⟨C_Empty, PySem.W.mg_of X G nc_Empty, (tabX_cons (PySem.W.mg_of X G nc_Empty) nc_Empty xm_Empty_Empty (tabX_cons (PySem.W.mg_of X G nc_Overfull) nc_Overfull xm_Overfull_Empty (tabX_cons (PySem.W.mg_of X G nc_TooFar) nc_TooFar xm_TooFar_Empty tabX_nil))), (tabI_cons nc_Empty xk_Empty xi_Empty_Empty (tabI_cons nc_Overfull xk_Overfull xi_Overfull_Empty (tabI_cons nc_TooFar xk_TooFar xi_TooFar_Empty tabI_nil)))⟩, ⟨C_LoopError, PySem.W.mg_of X G nc_LoopError, (tabX_cons (PySem.W.mg_of X G nc_Empty) nc_Empty xm_Empty_LoopError (tabX_cons (PySem.W.mg_of X G nc_Overfull) nc_Overfull xm_Overfull_LoopError (tabX_cons (PySem.W.mg_of X G nc_TooFar) nc_TooFar xm_TooFar_LoopError tabX_nil))), (tabI_cons nc_Empty xk_Empty xi_Empty_LoopError (tabI_cons nc_Overfull xk_Overfull xi_Overfull_LoopError (tabI_cons nc_TooFar xk_TooFar xi_TooFar_LoopError tabI_nil)))⟩, ⟨C_NothingDone, PySem.W.mg_of X G nc_NothingDone, (tabX_cons (PySem.W.mg_of X G nc_Empty) nc_Empty xm_Empty_NothingDone (tabX_cons (PySem.W.mg_of X G nc_Overfull) nc_Overfull xm_Overfull_NothingDone (tabX_cons (PySem.W.mg_of X G nc_TooFar) nc_TooFar xm_TooFar_NothingDone tabX_nil))), (tabI_cons nc_Empty xk_Empty xi_Empty_NothingDone (tabI_cons nc_Overfull xk_Overfull xi_Overfull_NothingDone (tabI_cons nc_TooFar xk_TooFar xi_TooFar_NothingDone tabI_nil)))⟩, ⟨C_Overfull, PySem.W.mg_of X G nc_Overfull, (tabX_cons (PySem.W.mg_of X G nc_Empty) nc_Empty xm_Empty_Overfull (tabX_cons (PySem.W.mg_of X G nc_Overfull) nc_Overfull xm_Overfull_Overfull (tabX_cons (PySem.W.mg_of X G nc_TooFar) nc_TooFar xm_TooFar_Overfull tabX_nil))), (tabI_cons nc_Empty xk_Empty xi_Empty_Overfull (tabI_cons nc_Overfull xk_Overfull xi_Overfull_Overfull (tabI_cons nc_TooFar xk_TooFar xi_TooFar_Overfull tabI_nil)))⟩, ⟨C_TooFar, PySem.W.mg_of X G nc_TooFar, (tabX_cons (PySem.W.mg_of X G nc_Empty) nc_Empty xm_Empty_TooFar (tabX_cons (PySem.W.mg_of X G nc_Overfull) nc_Overfull xm_Overfull_TooFar (tabX_cons (PySem.W.mg_of X G nc_TooFar) nc_TooFar xm_TooFar_TooFar tabX_nil))), (tabI_cons nc_Empty xk_Empty xi_Empty_TooFar (tabI_cons nc_Overfull xk_Overfull xi_Overfull_TooFar (tabI_cons nc_TooFar xk_TooFar xi_TooFar_TooFar tabI_nil)))⟩, (tabI_cons nc_Empty xk_Empty xv_Empty (tabI_cons nc_Overfull xk_Overfull xv_Overfull (tabI_cons nc_TooFar xk_TooFar xv_TooFar tabI_nil)))⟩
  have TB : BedTx K C := ⟨aC, ⟨pgB, hdB, poB, saB⟩, nB1, nB2, nB3⟩
  have F0 := fun_mk (st := s_Bed) l0 c0 k0
  have F1 := fun_mk (st := s_cell_at) l1 c1 k1
  have F2 := fun_mk (st := s_Bed_loops_at) l2 c2 k2
  have F3 := fun_mk (st := s_Bed_keep) l3 c3 k3
  have F4 := fun_mk (st := s_Bed_move) l4 c4 k4
  have F5 := fun_mk (st := s_Bed_new_loop) l5 c5 k5
  have F6 := fun_mk (st := s_Bed_knit) l6 c6 k6
  have F7 := fun_mk (st := s_Bed_tuck) l7 c7 k7
  have F8 := fun_mk (st := s_Bed_act) l8 c8 k8
  have F9 := fun_mk (st := s_at) l9 c9 k9
  have F10 := fun_mk (st := s_do) l10 c10 k10
  have F11 := fun_mk (st := s_hook) l11 c11 k11
  have F12 := fun_mk (st := s_word) l12 c12 k12
  have F13 := fun_mk (st := s_own) l13 c13 k13
  have F14 := fun_mk (st := s_act) l14 c14 k14
  have F15 := fun_mk (st := s_whole) l15 c15 k15
  have F16 := fun_mk (st := s_loop) l16 c16 k16
  have F17 := fun_mk (st := s_alike_cloth) l17 c17 k17
  have F18 := fun_mk (st := s_Bed_done) l18 c18 k18
  have F19 := fun_mk (st := s_alike_hook) l19 c19 k19
  have F20 := fun_mk (st := s_Bed_cloth) l20 c20 k20
  have F21 := fun_mk (st := s_Bed_hook) l21 c21 k21
  have F22 := fun_mk (st := s_stands) l22 c22 k22
  have F23 := fun_mk (st := s_law) l23 c23 k23
  refine ⟨PySem.W.fnOf "law" "law" (defArgs s_law) (defBody s_law) (defScope s_law) .none kV23 dc23 pm23 an23 cd23 ct23, fun s v => .of_eq rfl, fun base _ _ => ?_⟩
  have D_Bed : MkB l.prog w K mg base C := ⟨PySem.W.mg_of X G aC, _, _, ok_Bed F0 TB, ⟨mkB, a0, i0, kcB⟩, F0.binds (ps := ["self"]) fun _ _ _ _ _ _ us hl => by obtain ⟨_, rfl⟩ := len1 us hl; rfl⟩
  have D_cell_at : DefP l.prog w K mg base 1 "_law_cell_at" 2 m_cell_at := ⟨_, _, _, ok_cell_at F1 T TB , PySem.W.mg_of X G a1, k1, F1.binds (ps := ["script", "k"]) fun _ _ _ _ _ _ us hl => by obtain ⟨_, _, rfl⟩ := len2 us hl; rfl⟩
  have D_Bed_loops_at : MethP l.prog w K mg base C 1 "loops_at" 2 m_Bed_loops_at := ⟨_, _, _, ok_Bed_loops_at F2 T TB , ⟨a2, i2, k2⟩, F2.binds (ps := ["self", "spot"]) fun _ _ _ _ _ _ us hl => by obtain ⟨_, _, rfl⟩ := len2 us hl; rfl⟩
  have D_Bed_keep : MethW l.prog w K mg base C 2 "keep" 3 m_Bed_keep := ⟨_, _, _, ok_Bed_keep F3 T TB D_Bed_loops_at, ⟨a3, i3, k3⟩, F3.binds (ps := ["self", "deed", "spots"]) fun _ _ _ _ _ _ us hl => by obtain ⟨_, _, _, rfl⟩ := len3 us hl; rfl⟩
  have D_Bed_move : MethX l.prog w K mg base C 3 "move" 2 m_Bed_move := ⟨_, _, _, ok_Bed_move F4 T TB D_Bed_loops_at D_Bed_keep, ⟨a4, i4, k4⟩, F4.binds (ps := ["self", "deed"]) fun _ _ _ _ _ _ us hl => by obtain ⟨_, _, rfl⟩ := len2 us hl; rfl⟩
  have D_Bed_new_loop : MethW l.prog w K mg base C 1 "new_loop" 4 m_Bed_new_loop := ⟨_, _, _, ok_Bed_new_loop F5 T TB , ⟨a5, i5, k5⟩, F5.binds (ps := ["self", "yarn", "way", "held"]) fun _ _ _ _ _ _ us hl => by obtain ⟨_, _, _, _, rfl⟩ := len4 us hl; rfl⟩
  have D_Bed_knit : MethX l.prog w K mg base C 3 "knit" 2 m_Bed_knit := ⟨_, _, _, ok_Bed_knit F6 T TB D_Bed_loops_at D_Bed_keep D_Bed_new_loop, ⟨a6, i6, k6⟩, F6.binds (ps := ["self", "deed"]) fun _ _ _ _ _ _ us hl => by obtain ⟨_, _, rfl⟩ := len2 us hl; rfl⟩
  have D_Bed_tuck : MethX l.prog w K mg base C 3 "tuck" 2 m_Bed_tuck := ⟨_, _, _, ok_Bed_tuck F7 T TB D_Bed_loops_at D_Bed_keep D_Bed_new_loop, ⟨a7, i7, k7⟩, F7.binds (ps := ["self", "deed"]) fun _ _ _ _ _ _ us hl => by obtain ⟨_, _, rfl⟩ := len2 us hl; rfl⟩
  have D_Bed_act : MethX l.prog w K mg base C 4 "act" 2 m_Bed_act := ⟨_, _, _, ok_Bed_act F8 T TB D_Bed_move D_Bed_knit D_Bed_tuck, ⟨a8, i8, k8⟩, F8.binds (ps := ["self", "deed"]) fun _ _ _ _ _ _ us hl => by obtain ⟨_, _, rfl⟩ := len2 us hl; rfl⟩
  have D_at : DefP l.prog w K mg base 1 "_law_at" 2 m_at := ⟨_, _, _, ok_at F9 T TB , PySem.W.mg_of X G a9, k9, F9.binds (ps := ["row", "at"]) fun _ _ _ _ _ _ us hl => by obtain ⟨_, _, rfl⟩ := len2 us hl; rfl⟩
  have D_do : DefN l.prog w K mg base 2 "_law_do" 3 [0, 1] m_do := ⟨_, _, _, ok_do F10 T TB D_at, PySem.W.mg_of X G a10, k10, F10.binds (ps := ["hooks", "cloth", "deed"]) fun _ _ _ _ _ _ us hl => by obtain ⟨_, _, _, rfl⟩ := len3 us hl; rfl⟩
  have D_hook : DefN l.prog w K mg base 1 "_law_hook" 3 [0] m_hook := ⟨_, _, _, ok_hook F11 T TB , PySem.W.mg_of X G a11, k11, F11.binds (ps := ["hooks", "row", "at"]) fun _ _ _ _ _ _ us hl => by obtain ⟨_, _, _, rfl⟩ := len3 us hl; rfl⟩
  have D_word : DefN l.prog w K mg base 2 "_law_word" 2 [0] m_word := ⟨_, _, _, ok_word F12 T TB D_hook, PySem.W.mg_of X G a12, k12, F12.binds (ps := ["hooks", "deed"]) fun _ _ _ _ _ _ us hl => by obtain ⟨_, _, rfl⟩ := len2 us hl; rfl⟩
  have D_own : DefH l.prog w K mg base 1 "_law_own" 1 m_own := ⟨_, _, _, ok_own F13 T TB , PySem.W.mg_of X G a13, k13, F13.binds (ps := ["e"]) fun _ _ _ _ _ _ us hl => by obtain ⟨_, rfl⟩ := len1 us hl; rfl⟩
  have D_act : DefW l.prog w K mg base 5 "_law_act" 2 m_act := ⟨_, _, _, ok_act F14 T TB D_Bed_act D_own, PySem.W.mg_of X G a14, k14, F14.binds (ps := ["bed", "deed"]) fun _ _ _ _ _ _ us hl => by obtain ⟨_, _, rfl⟩ := len2 us hl; rfl⟩
  have D_whole : DefP l.prog w K mg base 1 "_law_whole" 1 m_whole := ⟨_, _, _, ok_whole F15 T TB , PySem.W.mg_of X G a15, k15, F15.binds (ps := ["found"]) fun _ _ _ _ _ _ us hl => by obtain ⟨_, rfl⟩ := len1 us hl; rfl⟩
  have D_loop : DefP l.prog w K mg base 2 "_law_loop" 1 m_loop := ⟨_, _, _, ok_loop F16 T TB D_whole, PySem.W.mg_of X G a16, k16, F16.binds (ps := ["found"]) fun _ _ _ _ _ _ us hl => by obtain ⟨_, rfl⟩ := len1 us hl; rfl⟩
  have D_alike_cloth : DefP l.prog w K mg base 3 "_law_alike_cloth" 2 m_alike_cloth := ⟨_, _, _, ok_alike_cloth F17 T TB D_loop, PySem.W.mg_of X G a17, k17, F17.binds (ps := ["found", "due"]) fun _ _ _ _ _ _ us hl => by obtain ⟨_, _, rfl⟩ := len2 us hl; rfl⟩
  have D_Bed_done : MethP l.prog w K mg base C 1 "done" 1 m_Bed_done := ⟨_, _, _, ok_Bed_done F18 T TB , ⟨a18, i18, k18⟩, F18.binds (ps := ["self"]) fun _ _ _ _ _ _ us hl => by obtain ⟨_, rfl⟩ := len1 us hl; rfl⟩
  have D_alike_hook : DefP l.prog w K mg base 2 "_law_alike_hook" 2 m_alike_hook := ⟨_, _, _, ok_alike_hook F19 T TB D_whole, PySem.W.mg_of X G a19, k19, F19.binds (ps := ["found", "due"]) fun _ _ _ _ _ _ us hl => by obtain ⟨_, _, rfl⟩ := len2 us hl; rfl⟩
  have D_Bed_cloth : MethP l.prog w K mg base C 1 "cloth" 1 m_Bed_cloth := ⟨_, _, _, ok_Bed_cloth F20 T TB , ⟨a20, i20, k20⟩, F20.binds (ps := ["self"]) fun _ _ _ _ _ _ us hl => by obtain ⟨_, rfl⟩ := len1 us hl; rfl⟩
  have D_Bed_hook : MethP l.prog w K mg base C 2 "hook" 3 m_Bed_hook := ⟨_, _, _, ok_Bed_hook F21 T TB D_Bed_loops_at, ⟨a21, i21, k21⟩, F21.binds (ps := ["self", "row", "hook"]) fun _ _ _ _ _ _ us hl => by obtain ⟨_, _, _, rfl⟩ := len3 us hl; rfl⟩
  have D_stands : DefP l.prog w K mg base 4 "_law_stands" 4 m_stands := ⟨_, _, _, ok_stands F22 T TB D_alike_cloth D_Bed_done D_alike_hook D_Bed_cloth D_Bed_hook, PySem.W.mg_of X G a22, k22, F22.binds (ps := ["bed", "hooks", "cloth", "deeds"]) fun _ _ _ _ _ _ us hl => by obtain ⟨_, _, _, _, rfl⟩ := len4 us hl; rfl⟩
  exact ok_law F23 T TB D_Bed D_cell_at D_Bed_act D_do D_word D_act D_stands
theorem walk {l : PySem.W.OpenLaw} {q : Program} {loose : List Str} {XP : (Str → Option Value) → Heap → Prop} {YP : World → Heap → Prop} {d : DefRec} {K : Params → PySem.W.Frag} (hn : l.most = some 63) (hdf : d.params.defaults = [])
    (hY : ∀ (w : World) (h : Heap), YP w h → (K w.params).In h)
    (F : ∀ (w : World) (mg : Str → Option Value) (fa : Addr) (h : Heap), (K w.params).In h → h.Ns mainGlobals mg → mg d.name = some (.ref fa) →
      ∃ fd : FuncData, (∀ (s : Shared) (u : Value), BindsTo s fd ⟨[u], []⟩ [("script", u)]) ∧ ∀ base : Heap, (K w.params).In base → base.Ns mainGlobals mg → FnOk l.prog w (K w.params) mg base CX0 6 fa fd ["script"] (spP (K w.params) (fun _ => .none) 1 m_law)) :
    PySem.W.WalkO q loose XP YP l.row.toRowW d [] (fun f vs => PySem.call f vs) :=
  L2.walk_of (n := 63) (k := 6) (x := "script") (CX := fun _ => CX0) (sp := fun w => spP (K w.params) (fun _ => .none) 1 m_law) hn (by decide) hdf ⟨rfl, by decide, by decide, rfl⟩ hY F (fun w H a ns hl hO hS => script_sp (law_true ns hl) hO hS) fun _ _ _ _ _ z => z
end Lw
open PySem PySem.W PyProof.Rows
set_option maxRecDepth 100000 in
set_option maxHeartbeats 0 in
theorem PySem.Challenge.cw_loopbed_k11_refused_deeds_holds : PySem.Challenge.rw_loopbed_k11_refused_deeds.Holds := by
  w_on; o_law; k_head; (case hw => w_witness2)
  k_fill
  refine Lw.walk (l := PySem.Challenge.rw_loopbed_k11_refused_deeds) rfl rfl (fun w h Y => PySem.W.kIn_of Y) ?F
  case F =>
    intro w mg fa h KX G hmg
    refine' Lw.all_mk KX G hmg ?aC ?a0 ?i0 ?l0 ?c0 ?k0 ?a1 ?l1 ?c1 ?k1 ?a2 ?i2 ?l2 ?c2 ?k2 ?a3 ?i3 ?l3 ?c3 ?k3 ?a4 ?i4 ?l4 ?c4 ?k4 ?a5 ?i5 ?l5 ?c5 ?k5 ?a6 ?i6 ?l6 ?c6 ?k6 ?a7 ?i7 ?l7 ?c7 ?k7 ?a8 ?i8 ?l8 ?c8 ?k8 ?a9 ?l9 ?c9 ?k9 ?a10 ?l10 ?c10 ?k10 ?a11 ?l11 ?c11 ?k11 ?a12 ?l12 ?c12 ?k12 ?a13 ?l13 ?c13 ?k13 ?a14 ?l14 ?c14 ?k14 ?a15 ?l15 ?c15 ?k15 ?a16 ?l16 ?c16 ?k16 ?a17 ?l17 ?c17 ?k17 ?a18 ?i18 ?l18 ?c18 ?k18 ?a19 ?l19 ?c19 ?k19 ?a20 ?i20 ?l20 ?c20 ?k20 ?a21 ?i21 ?l21 ?c21 ?k21 ?a22 ?l22 ?c22 ?k22 ?a23 ?l23 ?c23 ?k23 ?z_ValueError ?z_abs ?z_all ?z_bool ?z_int ?z_isinstance ?z_len ?z_list ?z_max ?z_min ?z_range ?z_str ?z_tuple ?pgB ?hdB ?poB ?saB ?mkB ?kcB ?nB1 ?nB2 ?nB3 ?g_ACROSS ?h_ACROSS ?g_FARTHEST ?g_MOST_BORNE ?g_WAYS ?h_WAYS ?nc_BedFault ?nc_Empty ?nc_LoopError ?nc_NothingDone ?nc_Overfull ?nc_TooFar ?xq_Empty ?xk_Empty ?xm_Empty_BedFault ?xi_Empty_BedFault ?xm_Empty_Empty ?xi_Empty_Empty ?xm_Empty_LoopError ?xi_Empty_LoopError ?xm_Empty_NothingDone ?xi_Empty_NothingDone ?xm_Empty_Overfull ?xi_Empty_Overfull ?xm_Empty_TooFar ?xi_Empty_TooFar ?xv_Empty ?xq_Overfull ?xk_Overfull ?xm_Overfull_BedFault ?xi_Overfull_BedFault ?xm_Overfull_Empty ?xi_Overfull_Empty ?xm_Overfull_LoopError ?xi_Overfull_LoopError ?xm_Overfull_NothingDone ?xi_Overfull_NothingDone ?xm_Overfull_Overfull ?xi_Overfull_Overfull ?xm_Overfull_TooFar ?xi_Overfull_TooFar ?xv_Overfull ?xq_TooFar ?xk_TooFar ?xm_TooFar_BedFault ?xi_TooFar_BedFault ?xm_TooFar_Empty ?xi_TooFar_Empty ?xm_TooFar_LoopError ?xi_TooFar_LoopError ?xm_TooFar_NothingDone ?xi_TooFar_NothingDone ?xm_TooFar_Overfull ?xi_TooFar_Overfull ?xm_TooFar_TooFar ?xi_TooFar_TooFar ?xv_TooFar
    (case aC => k_is)
    (case a0 => k_is)
    (case i0 => k_is)
    (case l0 => k_is)
    (case c0 => k_is)
    (case k0 => k_is)
    (case a1 => k_is)
    (case l1 => k_is)
    (case c1 => k_is)
    (case k1 => k_is)
    (case a2 => k_is)
    (case i2 => k_is)
    (case l2 => k_is)
    (case c2 => k_is)
    (case k2 => k_is)
    (case a3 => k_is)
    (case i3 => k_is)
    (case l3 => k_is)
    (case c3 => k_is)
    (case k3 => k_is)
    (case a4 => k_is)
    (case i4 => k_is)
    (case l4 => k_is)
    (case c4 => k_is)
    (case k4 => k_is)
    (case a5 => k_is)
    (case i5 => k_is)
    (case l5 => k_is)
    (case c5 => k_is)
    (case k5 => k_is)
    (case a6 => k_is)
    (case i6 => k_is)
    (case l6 => k_is)
    (case c6 => k_is)
    (case k6 => k_is)
    (case a7 => k_is)
    (case i7 => k_is)
    (case l7 => k_is)
    (case c7 => k_is)
    (case k7 => k_is)
    (case a8 => k_is)
    (case i8 => k_is)
    (case l8 => k_is)
    (case c8 => k_is)
    (case k8 => k_is)
    (case a9 => k_is)
    (case l9 => k_is)
    (case c9 => k_is)
    (case k9 => k_is)
    (case a10 => k_is)
    (case l10 => k_is)
    (case c10 => k_is)
    (case k10 => k_is)
    (case a11 => k_is)
    (case l11 => k_is)
    (case c11 => k_is)
    (case k11 => k_is)
    (case a12 => k_is)
    (case l12 => k_is)
    (case c12 => k_is)
    (case k12 => k_is)
    (case a13 => k_is)
    (case l13 => k_is)
    (case c13 => k_is)
    (case k13 => k_is)
    (case a14 => k_is)
    (case l14 => k_is)
    (case c14 => k_is)
    (case k14 => k_is)
    (case a15 => k_is)
    (case l15 => k_is)
    (case c15 => k_is)
    (case k15 => k_is)
    (case a16 => k_is)
    (case l16 => k_is)
    (case c16 => k_is)
    (case k16 => k_is)
    (case a17 => k_is)
    (case l17 => k_is)
    (case c17 => k_is)
    (case k17 => k_is)
    (case a18 => k_is)
    (case i18 => k_is)
    (case l18 => k_is)
    (case c18 => k_is)
    (case k18 => k_is)
    (case a19 => k_is)
    (case l19 => k_is)
    (case c19 => k_is)
    (case k19 => k_is)
    (case a20 => k_is)
    (case i20 => k_is)
    (case l20 => k_is)
    (case c20 => k_is)
    (case k20 => k_is)
    (case a21 => k_is)
    (case i21 => k_is)
    (case l21 => k_is)
    (case c21 => k_is)
    (case k21 => k_is)
    (case a22 => k_is)
    (case l22 => k_is)
    (case c22 => k_is)
    (case k22 => k_is)
    (case a23 => k_is)
    (case l23 => k_is)
    (case c23 => k_is)
    (case k23 => k_is)
    (case z_ValueError => k_is)
    (case z_abs => k_is)
    (case z_all => k_is)
    (case z_bool => k_is)
    (case z_int => k_is)
    (case z_isinstance => k_is)
    (case z_len => k_is)
    (case z_list => k_is)
    (case z_max => k_is)
    (case z_min => k_is)
    (case z_range => k_is)
    (case z_str => k_is)
    (case z_tuple => k_is)
    (case pgB => k_is)
    (case hdB => k_is)
    (case poB => k_is)
    (case saB => k_is)
    (case mkB => k_is)
    (case kcB => k_is)
    (case nB1 => k_is)
    (case nB2 => k_is)
    (case nB3 => k_is)
    (case g_ACROSS => k_is)
    (case h_ACROSS => kernel_rfl)
    (case g_FARTHEST => k_is)
    (case g_MOST_BORNE => k_is)
    (case g_WAYS => k_is)
    (case h_WAYS => kernel_rfl)
    (case nc_BedFault => k_is)
    (case nc_Empty => k_is)
    (case nc_LoopError => k_is)
    (case nc_NothingDone => k_is)
    (case nc_Overfull => k_is)
    (case nc_TooFar => k_is)
    (case xq_Empty => kernel_rfl)
    (case xk_Empty => kernel_rfl)
    (case xm_Empty_BedFault => kernel_rfl)
    (case xi_Empty_BedFault => kernel_rfl)
    (case xm_Empty_Empty => kernel_rfl)
    (case xi_Empty_Empty => kernel_rfl)
    (case xm_Empty_LoopError => kernel_rfl)
    (case xi_Empty_LoopError => kernel_rfl)
    (case xm_Empty_NothingDone => kernel_rfl)
    (case xi_Empty_NothingDone => kernel_rfl)
    (case xm_Empty_Overfull => kernel_rfl)
    (case xi_Empty_Overfull => kernel_rfl)
    (case xm_Empty_TooFar => kernel_rfl)
    (case xi_Empty_TooFar => kernel_rfl)
    (case xv_Empty => kernel_rfl)
    (case xq_Overfull => kernel_rfl)
    (case xk_Overfull => kernel_rfl)
    (case xm_Overfull_BedFault => kernel_rfl)
    (case xi_Overfull_BedFault => kernel_rfl)
    (case xm_Overfull_Empty => kernel_rfl)
    (case xi_Overfull_Empty => kernel_rfl)
    (case xm_Overfull_LoopError => kernel_rfl)
    (case xi_Overfull_LoopError => kernel_rfl)
    (case xm_Overfull_NothingDone => kernel_rfl)
    (case xi_Overfull_NothingDone => kernel_rfl)
    (case xm_Overfull_Overfull => kernel_rfl)
    (case xi_Overfull_Overfull => kernel_rfl)
    (case xm_Overfull_TooFar => kernel_rfl)
    (case xi_Overfull_TooFar => kernel_rfl)
    (case xv_Overfull => kernel_rfl)
    (case xq_TooFar => kernel_rfl)
    (case xk_TooFar => kernel_rfl)
    (case xm_TooFar_BedFault => kernel_rfl)
    (case xi_TooFar_BedFault => kernel_rfl)
    (case xm_TooFar_Empty => kernel_rfl)
    (case xi_TooFar_Empty => kernel_rfl)
    (case xm_TooFar_LoopError => kernel_rfl)
    (case xi_TooFar_LoopError => kernel_rfl)
    (case xm_TooFar_NothingDone => kernel_rfl)
    (case xi_TooFar_NothingDone => kernel_rfl)
    (case xm_TooFar_Overfull => kernel_rfl)
    (case xi_TooFar_Overfull => kernel_rfl)
    (case xm_TooFar_TooFar => kernel_rfl)
    (case xi_TooFar_TooFar => kernel_rfl)
    (case xv_TooFar => kernel_rfl)
