import PyProof.Rows.All
import Wide.All
import OpenK.AllK
import Wide.FinOn
import Lean
import PyProof.EqAt
import PyProof.EqKinds
import PyProof.TupleCall
import KE.KTryMore
import PySem.Challenge.RW_loopbed_k12_deeds_on_a_bed
set_option Elab.async false
set_option linter.all false
set_option maxRecDepth 100000
noncomputable def PySem.W.Fast.tw9926176078899836330 : PySem.Program := PySem.Challenge.pw_loopbed_k12_deeds_on_a_bed
theorem PySem.W.Fast.te9926176078899836330 : PySem.Challenge.pw_loopbed_k12_deeds_on_a_bed = PySem.W.Fast.tw9926176078899836330 := rfl
theorem PySem.W.Fast.te14411611015961540377 : True := trivial
set_option genSizeOf false
set_option genInjectivity false
namespace L2
open PySem PySem.Spec PyProof.Rows
noncomputable abbrev Key := Sum Int Str
noncomputable def jN : Key → Value → Bool
  | .inl k, v => Value.isInt k v
  | .inr x, v => Value.isStrOf x v
noncomputable def vu (w : World) : Key → Int
  | .inl k => hashInt k
  | .inr x => hashStr w x
theorem fX : ∀ {k : Key} {v : Value}, jN k v = true → (∃ i t, k = Sum.inl i ∧ v = Value.int i t) ∨ (∃ x t, k = Sum.inr x ∧ v = Value.str x t)
  | .inl i, v, h => by
    obtain ⟨t, e⟩ := Value.isInt_shape (k := i) (v := v) h
    exact .inl ⟨i, t, rfl, e⟩
  | .inr x, v, h => by
    obtain ⟨t, e⟩ := Value.isStrOf_shape (x := x) (v := v) h
    exact .inr ⟨x, t, rfl, e⟩
theorem vn (i : Int) (t : Tok) : jN (.inl i) (.int i t) = true := by simp [jN, Value.isInt]
theorem zt (x : Str) (t : Tok) : jN (.inr x) (.str x t) = true := by simp [jN, Value.isStrOf]
theorem wK (a b : Int) : decide ((Sum.inl a : Key) = Sum.inl b) = (a == b) := by
  by_cases e : a = b
  · subst e; simp
  · have h : ¬ (Sum.inl a : Key) = Sum.inl b := fun q => e (Sum.inl.inj q)
    rw [decide_eq_false h]
    exact (beq_eq_false_iff_ne.mpr e).symm
theorem xZ (a b : Str) : decide ((Sum.inr a : Key) = Sum.inr b) = decide (a = b) := by
  by_cases e : a = b
  · subst e; simp
  · have h : ¬ (Sum.inr a : Key) = Sum.inr b := fun q => e (Sum.inr.inj q)
    rw [decide_eq_false h, decide_eq_false e]
theorem yV (a : Int) (b : Str) : decide ((Sum.inl a : Key) = Sum.inr b) = false := decide_eq_false (fun q => nomatch q)
theorem yF (a : Str) (b : Int) : decide ((Sum.inr a : Key) = Sum.inl b) = false := decide_eq_false (fun q => nomatch q)
noncomputable def di (prog : Program) (w : World) : PySem.KeyKind prog w Key where
  is := jN
  hash := vu w
  inj := fun v a b ha hb => by
    rcases fX ha with ⟨i, t, rfl, rfl⟩ | ⟨x, t, rfl, rfl⟩
    · rcases fX hb with ⟨j, u, rfl, e⟩ | ⟨y, u, rfl, e⟩
      · injection e with e1 _; rw [e1]
      · exact nomatch e
    · rcases fX hb with ⟨j, u, rfl, e⟩ | ⟨y, u, rfl, e⟩
      · exact nomatch e
      · injection e with e1 _; rw [e1]
  byValue := fun k v h => by
    rcases fX h with ⟨i, t, rfl, rfl⟩ | ⟨x, t, rfl, rfl⟩ <;> rfl
  pyHash := fun hv h => by
    rcases fX hv with ⟨i, t, rfl, rfl⟩ | ⟨x, t, rfl, rfl⟩
    · exact wpAny_pyHash_int h
    · exact wpAny_pyHash_str h
  eqBool := fun hu hv h => by
    rcases fX hu with ⟨i, t, rfl, rfl⟩ | ⟨x, t, rfl, rfl⟩
    · rcases fX hv with ⟨j, u, rfl, rfl⟩ | ⟨y, u, rfl, rfl⟩
      · rw [wK] at h; exact wpAny_eqBool_int h
      · rw [yV] at h; exact SeqAt.EqAt.int_str i t y u _ _ _ _ h
    · rcases fX hv with ⟨j, u, rfl, rfl⟩ | ⟨y, u, rfl, rfl⟩
      · rw [yF] at h; exact SeqAt.EqAt.str_int x t j u _ _ _ _ h
      · rw [xZ] at h; exact wpAny_eqBool_str h
  «strs» := fun k x t v h => by
    rcases fX h with ⟨i, u, rfl, e⟩ | ⟨y, u, rfl, e⟩
    · exact nomatch e
    · injection e with e1 _
      subst e1
      cases v <;> rfl
theorem vB (prog : Program) (w : World) (i : Int) (t : Tok) : (di prog w).is (.inl i) (.int i t) = true := vn i t
theorem uZ (prog : Program) (w : World) (x : Str) (t : Tok) : (di prog w).is (.inr x) (.str x t) = true := zt x t
end L2
namespace L2
open PySem PySem.Spec PyProof.Rows
inductive V where
  | non | bl (b : Bool) | int (i : Int) | str (x : Str) | byt (b : Array UInt8) | flt (b : UInt64) | ref (a : Addr) | ty (n : String)
  deriving DecidableEq
noncomputable def RelV : V → Value → Prop
  | .non, u => u = Value.none
  | .bl b, u => u = Value.bool b
  | .int i, u => ∃ t, u = Value.int i t
  | .str x, u => ∃ t, u = Value.str x t
  | .byt b, u => ∃ t, u = Value.bytes b t
  | .flt b, u => ∃ t, u = Value.float b t
  | .ref a, u => u = Value.ref a
  | .ty n, u => u = Value.type n
noncomputable abbrev Vals : List V → List Value → Prop := Paired RelV
theorem Vals.length {xs : List V} {us : List Value} (r : Vals xs us) : xs.length = us.length := Paired.length r
theorem Vals.get : ∀ {xs : List V} {us : List Value} {i : Nat} {x : V}, Vals xs us → xs[i]? = some x → ∃ u, us[i]? = some u ∧ RelV x u
  | _, _, _, _, .nil, e => by simp at e
  | _, _, 0, _, .cons r _, e => by simp at e; subst e; exact ⟨_, rfl, r⟩
  | _, _, i + 1, x, .cons _ t, e => by
    obtain ⟨u, h1, h2⟩ := Vals.get (i := i) (x := x) t (by simpa using e)
    exact ⟨u, by simpa using h1, h2⟩
theorem Vals.set {x : V} {u : Value} (r : RelV x u) : ∀ {xs : List V} {us : List Value} (i : Nat), Vals xs us → Vals (xs.set i x) (us.set i u)
  | _, _, _, .nil => .nil
  | _, _, 0, .cons _ t => .cons r t
  | _, _, i + 1, .cons q t => .cons q (Vals.set r i t)
theorem Vals.append : ∀ {xs ys : List V} {us ws : List Value}, Vals xs us → Vals ys ws → Vals (xs ++ ys) (us ++ ws)
  | _, _, _, _, .nil, s => s
  | _, _, _, _, .cons r t, s => .cons r (Vals.append t s)
theorem Vals.take : ∀ {xs : List V} {us : List Value} (n : Nat), Vals xs us → Vals (xs.take n) (us.take n)
  | _, _, 0, _ => .nil
  | _, _, _ + 1, .nil => .nil
  | _, _, n + 1, .cons r t => .cons r (Vals.take n t)
noncomputable def df : Option V → Option Value → Prop
  | some v, some u => RelV v u
  | none, none => True
  | _, _ => False
noncomputable def KV {κ : Type} : List (κ × V) → List (κ × Value) → Prop := Paired fun (p : κ × V) (q : κ × Value) => p.1 = q.1 ∧ RelV p.2 q.2
noncomputable def kV : Key → V
  | .inl i => .int i
  | .inr x => .str x
inductive HO where
  | lst (xs : List V)
  | tup (xs : List V)
  | dK (kvs : List (Key × V)) | dT (kvs : List (List Key × V))
  | set (S : Int → Bool) (n : Nat)
  | ins (C dx : Addr) (fs : List (Str × V))
  | own (x : Addr)
  | xd (fs : List (Str × V))
  | met (f x : Addr)
  | rng (lo hi : Int)
  | frz (o : Obj) (u : HO)
  | tbl (ps : Array Value)
  | ext (φ : Heap → Prop)
noncomputable abbrev Hp := Addr → Option HO
noncomputable def upd (H : Hp) (a : Addr) (o : HO) : Hp := fun b => if b = a then some o else H b
theorem aT {H : Hp} {a : Addr} {o : HO} : upd H a o a = some o := by unfold upd; rw [if_pos rfl]
theorem aD {H : Hp} {a b : Addr} {o : HO} (h : b ≠ a) : upd H a o b = H b := by unfold upd; rw [if_neg h]
theorem Aq {H : Hp} {a b : Addr} {o u : HO} (h : H a = some o) (h' : H b = some u) (d : o ≠ u) : a ≠ b := by
  intro e; subst e; rw [h] at h'; exact d (Option.some.inj h')
theorem cz {H : Hp} {a b : Addr} {o : HO} (h : H a = some o) (h' : H b = none) : a ≠ b := by
  intro e; subst e; rw [h] at h'; cases h'
section
variable (P : Program) (w : World)
noncomputable def bL (H : Hp) (h : Heap) (a : Addr) : HO → Prop
  | .lst xs => xs.length ≤ sizeLine ∧ ∃ (its : List Value) (n : Nat), Vals xs its ∧ h.get? a = some { cls := .type "list", data := .seq its.toArray n }
  | .tup xs => xs.length ≤ sizeLine ∧ ∃ its : List Value, Vals xs its ∧ IsTup h a its.toArray
  | .dK kvs => kvs.length ≤ sizeLine ∧ (a == sysModules) = false ∧ ∃ vs, KV kvs vs ∧ h.DictOf (di P w) a vs
  | .dT kvs => kvs.length ≤ sizeLine ∧ (a == sysModules) = false ∧ ∃ xs : List (List Key × Addr × Value),
      Paired (fun (p : List Key × V) (q : List Key × Addr × Value) => p.1 = q.1 ∧ H q.2.1 = some (.tup (p.1.map kV)) ∧ RelV p.2 q.2.2) kvs xs ∧
      ∃ o es ep, h.get? a = some o ∧ o.ExactDict ∧ o.data = .dict es ep ∧ es.toList = xs.map (entryOfKey (tupleKind (di P w))) ∧ (xs.map (·.1)).Nodup
  | .set S n => h.SetOf (intKind P w) a S n
  | .ins C dx fs => H dx = some (.own a) ∧ fs.length ≤ 1000 ∧ dx ≠ a ∧ h.get? a = some (PySem.W.instObj C dx) ∧
      ∃ mA, h.Ns1 dx mA ∧ (∀ f, df (fs.lookup f) (mA f)) ∧ PySem.Within mA (fs.map (·.1))
  | .own _ => ∃ o, h.get? a = some o
  | .xd fs => ∃ mA, h.Ns1 a mA ∧ ∀ f, df (fs.lookup f) (mA f)
  | .rng lo hi => ∃ t u v, h.get? a = some { cls := .type "range", data := .fields #[.int lo t, .int hi u, .int 1 v] }
  | .frz o u => h.get? a = some o ∧ bL H h a u
  | .tbl ps => h.get? a = some { cls := .none, data := .fields ps }
  | .met f x => h.get? a = some (PySem.W.methodObj (.ref f) (.ref x))
  | .ext φ => φ h ∧ (∃ o, h.get? a = some o) ∧ ∀ h1 h2 : Heap, φ h1 → (∀ o, h1.get? a = some o → h2.get? a = some o) → φ h2
noncomputable def HOk (H : Hp) (h : Heap) : Prop := ∀ a o, H a = some o → bL P w H h a o
end
section
variable {P : Program} {w : World} {H H' : Hp} {h h' : Heap} {a : Addr} {o : HO}
theorem bL.lt (x : bL P w H h a o) : a < h.objs.size := by
  cases o with
  | lst xs => obtain ⟨_, _, _, _, e⟩ := x; exact Heap.lt_size e
  | tup xs => obtain ⟨_, _, _, p⟩ := x; exact p.lt
  | dK kvs => obtain ⟨_, _, _, _, o, _, _, e, _⟩ := x; exact Heap.lt_size e
  | dT kvs => obtain ⟨_, _, _, _, o, _, _, e, _⟩ := x; exact Heap.lt_size e
  | set S n => obtain ⟨o, _, _, _, e, _⟩ := x; exact Heap.lt_size e
  | ins C dx fs => obtain ⟨_, _, _, e, _⟩ := x; exact Heap.lt_size e
  | own y => obtain ⟨_, e⟩ := x; exact Heap.lt_size e
  | xd fs => obtain ⟨_, ⟨_, _, _, e, _⟩, _⟩ := x; exact Heap.lt_size e
  | rng lo hi => obtain ⟨_, _, _, e⟩ := x; exact Heap.lt_size e
  | frz ob u => obtain ⟨e, _⟩ := x; exact Heap.lt_size e
  | tbl ps => exact Heap.lt_size (show h.get? a = some _ from x)
  | met f y => exact Heap.lt_size (show h.get? a = some _ from x)
  | ext φ => obtain ⟨_, ⟨_, e⟩, _⟩ := x; exact Heap.lt_size e
theorem Paired.mapP {α β : Type} {F G : α → β → Prop} : ∀ {l₁ : List α} {l₂ : List β}, Paired F l₁ l₂ → (∀ a b, F a b → G a b) → Paired G l₁ l₂
  | _, _, .nil, _ => .nil
  | _, _, .cons r t, f => .cons (f _ _ r) (Paired.mapP t f)
theorem bL.stay (x : bL P w H h a o) (k : ∀ b u, (b = a ∨ H b = some (.own a)) → h.get? b = some u → h'.get? b = some u)
    (ho : ∀ b, H b = some (.own a) → H' b = some (.own a)) (ht : ∀ b xs, H b = some (.tup xs) → H' b = some (.tup xs)) : bL P w H' h' a o := by
  induction o with
  | lst xs => obtain ⟨z, its, n, r, e⟩ := x; exact ⟨z, its, n, r, k _ _ (.inl rfl) e⟩
  | tup xs => obtain ⟨z, its, r, ob, e, c⟩ := x; exact ⟨z, its, r, ob, k _ _ (.inl rfl) e, c⟩
  | dK kvs => obtain ⟨z, y, vs, r, ob, es, ep, e, c⟩ := x; exact ⟨z, y, vs, r, ob, es, ep, k _ _ (.inl rfl) e, c⟩
  | dT kvs =>
    obtain ⟨z, y, xs, r, ob, es, ep, e, c⟩ := x
    exact ⟨z, y, xs, Paired.mapP r fun p q z => ⟨z.1, ht _ _ z.2.1, z.2.2⟩, ob, es, ep, k _ _ (.inl rfl) e, c⟩
  | set S n => obtain ⟨ob, es, ep, t, e, c⟩ := x; exact ⟨ob, es, ep, t, k _ _ (.inl rfl) e, c⟩
  | ins C dx fs =>
    obtain ⟨d, z, ne, e, mA, ⟨od, es, ep, e2, c⟩, r⟩ := x
    exact ⟨ho _ d, z, ne, k _ _ (.inl rfl) e, mA, ⟨od, es, ep, k _ _ (.inr d) e2, c⟩, r⟩
  | own y => obtain ⟨ob, e⟩ := x; exact ⟨ob, k _ _ (.inl rfl) e⟩
  | xd fs => obtain ⟨mA, ⟨od, es, ep, e, c⟩, r⟩ := x; exact ⟨mA, ⟨od, es, ep, k _ _ (.inl rfl) e, c⟩, r⟩
  | rng lo hi => obtain ⟨t, u, v, e⟩ := x; exact ⟨t, u, v, k _ _ (.inl rfl) e⟩
  | frz ob u ih => obtain ⟨e, q⟩ := x; exact ⟨k _ _ (.inl rfl) e, ih q⟩
  | tbl ps =>
    have e : h.get? a = some { cls := .none, data := .fields ps } := x
    show h'.get? a = some { cls := .none, data := .fields ps }
    exact k a _ (.inl rfl) e
  | met f y =>
    have e : h.get? a = some (PySem.W.methodObj (.ref f) (.ref y)) := x
    show h'.get? a = some (PySem.W.methodObj (.ref f) (.ref y))
    exact k a _ (.inl rfl) e
  | ext φ => obtain ⟨p, ⟨o, e⟩, st⟩ := x; exact ⟨st _ _ p fun o q => k _ _ (.inl rfl) q, ⟨o, k _ _ (.inl rfl) e⟩, st⟩
theorem HOk.lt (x : HOk P w H h) (e : H a = some o) : a < h.objs.size := (x a o e).lt
theorem HOk.fresh (x : HOk P w H h) (e : h.objs.size ≤ a) : H a = none := by
  cases q : H a with
  | none => rfl
  | some u => exact absurd (Nat.lt_of_lt_of_le (x.lt q) e) (Nat.lt_irrefl _)
theorem HOk.kept (x : HOk P w H h) (k : ∀ b u, h.get? b = some u → h'.get? b = some u) : HOk P w H h' := fun a o e =>
  (x a o e).stay (fun b u _ q => k b u q) (fun _ q => q) fun _ _ q => q
theorem HOk.laid (x : HOk P w H h) (k : ∀ b u, h.get? b = some u → h'.get? b = some u) (hp : h.objs.size ≤ a) (new : bL P w (upd H a o) h' a o) : HOk P w (upd H a o) h' := fun b u e => by
  have hn := x.fresh hp
  by_cases hb : b = a
  · subst hb; rw [aT] at e; cases e; exact new
  · rw [aD hb] at e
    exact (x b u e).stay (fun c v _ q => k c v q) (fun c q => by rw [aD (cz q hn)]; exact q) fun c xs q => by rw [aD (cz q hn)]; exact q
end
noncomputable def Rd (H : Hp) (a : Addr) (u : HO) : Prop := H a = some u ∨ ∃ o, H a = some (.frz o u)
theorem Rd.ok {P : Program} {w : World} {H : Hp} {h : Heap} {a : Addr} {u : HO} (r : Rd H a u) (x : HOk P w H h) : bL P w H h a u := by
  rcases r with r | ⟨o, r⟩
  · exact x a u r
  · obtain ⟨_, q⟩ := x a _ r
    exact q
noncomputable def Mut : Option HO → Prop
  | some (.lst _) => True
  | some (.dK _) => True
  | some (.dT _) => True
  | some (.set _ _) => True
  | some (.ins _ _ _) => True
  | some (.ext _) => True
  | _ => False
section
variable {P : Program} {w : World} {H : Hp} {h h' : Heap} {x e : Addr} {o' : HO}
theorem HOk.write (ok : HOk P w H h) (mu : Mut (H x)) (he : e = x ∨ H e = some (.own x)) (k : ∀ b u, b ≠ e → h.get? b = some u → h'.get? b = some u) (heo : ∃ u, h'.get? e = some u)
    (new : bL P w (upd H x o') h' x o') : HOk P w (upd H x o') h' := fun b u q => by
  have nown : ∀ c y, H c = some (.own y) → c ≠ x := fun c y r z => by subst z; rw [r] at mu; exact mu
  have ntup : ∀ c xs, H c = some (.tup xs) → c ≠ x := fun c xs r z => by subst z; rw [r] at mu; exact mu
  by_cases hb : b = x
  · subst hb; rw [aT] at q; cases q; exact new
  · rw [aD hb] at q
    by_cases hbe : b = e
    · have q' : H b = some (.own x) := by
        rcases he with z | z
        · exact absurd (hbe.trans z) hb
        · rw [hbe]; exact z
      rw [q] at q'; cases q'
      obtain ⟨v, hv⟩ := heo
      exact ⟨v, by rw [hbe]; exact hv⟩
    · refine (ok b u q).stay (fun c v hc r => k c v ?_ r) (fun c r => by rw [aD (nown c b r)]; exact r) fun c xs r => by rw [aD (ntup c xs r)]; exact r
      rcases hc with rfl | hc
      · exact hbe
      · rintro rfl
        rcases he with z | z
        · exact nown c b hc z
        · rw [hc] at z; cases z; exact hb rfl
end
structure Un (fs ex : List Addr) (H H' : Hp) (h h' : Heap) : Prop where
  keep : ∀ b o, h.get? b = some o → H b = none → b ∉ fs → b ∉ ex → h'.get? b = some o
  slot : ∀ b o, h.get? b = some o → H b = none → b ∈ fs → b ∉ ex → ∃ sl, h'.get? b = some { o with slots := sl }
  free : ∀ b o, h.get? b = some o → H b = none → b ∉ ex → H' b = none
  there : ∀ b o, h.get? b = some o → b ∉ ex → ∃ o', h'.get? b = some o'
  tups : ∀ b xs, H b = some (.tup xs) → H' b = some (.tup xs)
  frzs : ∀ b o u, H b = some (.frz o u) → H' b = some (.frz o u)
  tbls : ∀ b ps, H b = some (.tbl ps) → ∃ more, H' b = some (.tbl (ps ++ more))
section
variable {fs fs' ex ex' : List Addr} {H H1 H2 : Hp} {h h1 h2 h' : Heap} {a x e : Addr} {o : HO}
theorem Un.any (u : Un fs ex H H1 h h1) {b : Addr} {ob : Obj} (q : h.get? b = some ob) (n : H b = none) (hx : b ∉ ex) : ∃ sl, h1.get? b = some { ob with slots := sl } := by
  by_cases hb : b ∈ fs
  · exact u.slot b ob q n hb hx
  · exact ⟨ob.slots, u.keep b ob q n hb hx⟩
theorem Un.trans (a : Un fs ex H H1 h h1) (b : Un fs ex H1 H2 h1 h2) : Un fs ex H H2 h h2 where
  keep := fun c ob q n hc hx => b.keep c ob (a.keep c ob q n hc hx) (a.free c ob q n hx) hc hx
  slot := fun c ob q n hc hx => by
    obtain ⟨sl, e1⟩ := a.slot c ob q n hc hx
    obtain ⟨sl', e2⟩ := b.slot c _ e1 (a.free c ob q n hx) hc hx
    exact ⟨sl', e2⟩
  free := fun c ob q n hx => by
    obtain ⟨o', e1⟩ := a.there c ob q hx
    exact b.free c o' e1 (a.free c ob q n hx) hx
  there := fun c ob q hx => by
    obtain ⟨o', e1⟩ := a.there c ob q hx
    exact b.there c o' e1 hx
  tups := fun c xs q => b.tups c xs (a.tups c xs q)
  frzs := fun c ob xs q => b.frzs c ob xs (a.frzs c ob xs q)
  tbls := fun c ps q => by
    obtain ⟨m1, e1⟩ := a.tbls c ps q
    obtain ⟨m2, e2⟩ := b.tbls c _ e1
    exact ⟨m1 ++ m2, by rw [e2, Array.append_assoc]⟩
theorem Un.kept (k : ∀ b u, h.get? b = some u → h'.get? b = some u) : Un fs ex H H h h' :=
  ⟨fun b ob q _ _ _ => k b ob q, fun b ob q _ _ _ => ⟨ob.slots, k b ob q⟩, fun _ _ _ n _ => n, fun b ob q _ => ⟨ob, k b ob q⟩, fun _ _ q => q, fun _ _ _ q => q, fun _ ps q => ⟨#[], by rw [q]; simp⟩⟩
theorem Un.refl : Un fs ex H H h h := Un.kept fun _ _ q => q
theorem Un.laid (k : ∀ b u, h.get? b = some u → h'.get? b = some u) (hp : h.objs.size ≤ a) (hn : H a = none) : Un fs ex H (upd H a o) h h' where
  keep := fun b u q _ _ _ => k b u q
  slot := fun b u q _ _ _ => ⟨u.slots, k b u q⟩
  free := fun b u q n _ => by rw [aD (Nat.ne_of_lt (Nat.lt_of_lt_of_le (Heap.lt_size q) hp))]; exact n
  there := fun b u q _ => ⟨u, k b u q⟩
  tups := fun b xs q => by rw [aD (cz q hn)]; exact q
  frzs := fun b u xs q => by rw [aD (cz q hn)]; exact q
  tbls := fun b ps q => ⟨#[], by rw [aD (cz q hn), q]; simp⟩
theorem Un.write (mu : Mut (H x)) (he : e = x ∨ H e = some (.own x)) (k : ∀ b u, b ≠ e → h.get? b = some u → h'.get? b = some u) (heo : ∃ u, h'.get? e = some u) : Un fs ex H (upd H x o) h h' := by
  have hx : ∀ b, H b = none → b ≠ x := fun b n z => by subst z; rw [n] at mu; exact mu
  have hb : ∀ b, H b = none → b ≠ e := fun b n z => by
    subst z
    rcases he with r | r
    · exact hx b n r
    · rw [n] at r; cases r
  have hm : ∀ b u, H b = some u → ¬ Mut (some u) → b ≠ x := fun b u q nm z => by subst z; rw [q] at mu; exact nm mu
  refine ⟨fun b u q n _ _ => k b u (hb b n) q, fun b u q n _ _ => ⟨u.slots, k b u (hb b n) q⟩, fun b u q n _ => by rw [aD (hx b n)]; exact n, fun b u q _ => ?_,
    fun b xs q => by rw [aD (hm b _ q fun z => z)]; exact q, fun b u xs q => by rw [aD (hm b _ q fun z => z)]; exact q, fun b ps q => ⟨#[], by rw [aD (hm b _ q fun z => z), q]; simp⟩⟩
  by_cases hbe : b = e
  · subst hbe; exact heo
  · exact ⟨u, k b u hbe q⟩
end
noncomputable def trk (h : Heap) (H : Hp) : List Addr := (List.range h.objs.size).filter fun a => (H a).isSome
noncomputable def gk (h : Heap) (H : Hp) : Heap := PySem.W.hideAll h (trk h H)
theorem xy (h : Heap) (H : Hp) : (gk h H).objs.size = h.objs.size := PySem.W.hideAll_size _ _
theorem Ad {h : Heap} {H : Hp} {b : Addr} {o : Obj} (e : h.get? b = some o) (n : H b = none) : (gk h H).get? b = some o :=
  PySem.W.hideAll_get _ e fun hm => by
    have q : (H b).isSome = true := (List.mem_filter.mp hm).2
    rw [n] at q; simp at q
theorem Ap {h : Heap} {H : Hp} {b : Addr} {o : Obj} (e : (gk h H).get? b = some o) : h.get? b = some o ∧ H b = none := by
  have e' : h.get? b = some o := PySem.W.of_hideAll (trk h H) e
  refine ⟨e', ?_⟩
  cases q : H b with
  | none => rfl
  | some x =>
    have hm : b ∈ trk h H := List.mem_filter.mpr ⟨List.mem_range.mpr (Heap.lt_size e'), by simp [q]⟩
    have z : (gk h H).get? b = none := PySem.W.hideAll_none (trk h H) hm
    rw [z] at e; cases e
noncomputable def xX (g h : Heap) (L : Addr) : List (Addr × Obj) := (List.range h.objs.size).filterMap fun a => if a = L ∨ (g.get? a).isSome = true then none else (h.get? a).map fun o => (a, o)
noncomputable def rest (g h : Heap) (L d : Addr) : List (Addr × Obj) := (xX g h L).filter fun p => decide (p.1 ≠ d)
end L2
namespace L2
open PySem PySem.Spec PyProof.Rows
structure Mod (K : PySem.W.Frag) (mg : Str → Option Value) (base : Heap) : Prop where
  kin : K.In base
  glob : base.Ns mainGlobals mg
  blt : ∃ mb, base.Ns builtinsNs mb ∧ ∀ x : Str, x ≠ "__name__" → mb x = bootBuiltins x
  nolimit : base.NoLimit
structure Cx where
  prog : Program
  w : World
  K : PySem.W.Frag
  mg : Str → Option Value
  base : Heap
  A : Around
  N : List Str
  s₀ : Shared
  H₀ : Hp
  env : Env
  outer : List Env
  stack : List Env
  ex : List Addr
  fn : Str → Bool
  calm : Bool
  pn : List (Addr × Obj)
  xe : Value → Shared → Prop
noncomputable def frs (l : List Env) : List Addr := l.filterMap (·.frame)
noncomputable abbrev Cx.fs (X : Cx) : List Addr := frs X.outer
noncomputable def Vis (sc : Scope) (x : Str) : Prop := sc.names.lookup x = some .local ∨ sc.names.lookup x = some .cell ∨ sc.names.lookup x = some .free
noncomputable def Loc (sc : Scope) (x : Str) : Prop := sc.names.lookup x = some .local ∨ sc.names.lookup x = some .cell
noncomputable def Look (env : Env) (h : Heap) (m : Str → Option Value) (x : Str) (u : Value) : Prop :=
  (env.kindOf x = some .local ∧ m x = some u) ∨ ((env.kindOf x = some .cell ∨ env.kindOf x = some .free) ∧ ∃ c, env.cells.lookup x = some c ∧ h.IsCell c (some u))
structure Cx.Ok (X : Cx) : Prop where
  mod : Mod X.K X.mg X.base
  kind : X.env.scope.kind = .function
  glob : X.env.globals = mainGlobals
  blt : X.env.builtins = builtinsNs
  above : X.s₀.heap.objs.size ≤ X.env.locals
  inj : ∀ x y c, X.env.cells.lookup x = some c → X.env.cells.lookup y = some c → x = y
  has : ∀ x, (X.env.kindOf x = some .cell ∨ X.env.kindOf x = some .free) → ∃ c, X.env.cells.lookup x = some c
  cab : ∀ x c, X.fn x = true → X.env.cells.lookup x = some c → X.s₀.heap.objs.size ≤ c
  hd : X.calm = true → X.A.handled = none
  frames : X.A.frames = some X.stack
  stk : X.stack = X.outer ∨ (X.stack = X.env :: X.outer ∧ X.env.frame = some X.env.locals)
  exf : ∀ b ∈ X.ex, b ≠ X.env.locals ∧ ∀ x c, X.env.cells.lookup x = some c → c ≠ b
  bs : ∀ b o, X.base.get? b = some o → X.s₀.heap.get? b = some o ∧ X.H₀ b = none
  bsz : X.base.objs.size ≤ X.s₀.heap.objs.size
  noex : ∀ b o, X.base.get? b = some o → b ∉ X.ex
  exfs : ∀ b ∈ X.ex, b ∉ X.fs
  funs : X.s₀.heap.FunFrames X.base X.outer
  frf : ∀ b ∈ X.fs, X.H₀ b = none
structure Inv (X : Cx) (pins : List (Addr × Obj)) (σ : List (Option V)) (H : Hp) (s : Shared) : Prop where
  ok : X.Ok
  os : s.os = X.s₀.os
  bare : AllBare s.gens
  base : Un X.fs X.ex X.H₀ H X.s₀.heap s.heap
  loc : ∃ m, s.heap.Ns X.env.locals m ∧ ∀ (i : Nat) (x : Str) (v : V), X.N[i]? = some x → σ[i]? = some (some v) → Vis X.env.scope x → ∃ u, RelV v u ∧ Look X.env s.heap m x u
  cell : ∀ x c, X.env.cells.lookup x = some c → ∃ v, s.heap.IsCell c v
  free : H X.env.locals = none
  freeC : ∀ x c, X.env.cells.lookup x = some c → H c = none
  pin : ∀ p ∈ X.pn ++ pins, s.heap.get? p.1 = some p.2 ∧ H p.1 = none ∧ p.1 ≠ X.env.locals ∧ p.1 ∉ X.fs ∧ ∀ v, p.2.data ≠ .cell v
  hok : HOk X.prog X.w H s.heap
  len : σ.length = X.N.length
section
variable {X : Cx} {pins : List (Addr × Obj)} {σ : List (Option V)} {H H' : Hp} {s : Shared} {h' : Heap}
theorem Cx.Ok.nofr (ok : X.Ok) {b : Addr} {o : Obj} (e : X.base.get? b = some o) : b ∉ X.fs := fun hb => by
  have := (ok.funs.mem hb).1
  rw [e] at this; cases this
theorem Inv.bs (I : Inv X pins σ H s) : ∀ b o, X.base.get? b = some o → s.heap.get? b = some o ∧ H b = none := fun b o e =>
  ⟨I.base.keep b o (I.ok.bs b o e).1 (I.ok.bs b o e).2 (I.ok.nofr e) (I.ok.noex b o e), I.base.free b o (I.ok.bs b o e).1 (I.ok.bs b o e).2 (I.ok.noex b o e)⟩
theorem Inv.bk (I : Inv X pins σ H s) : ∀ b o, X.base.get? b = some o → s.heap.get? b = some o := fun b o e => (I.bs b o e).1
theorem Inv.mod (I : Inv X pins σ H s) : Mod X.K X.mg X.base := I.ok.mod
theorem Inv.kIn (I : Inv X pins σ H s) : X.K.In s.heap := I.ok.mod.kin.keeps I.bk
theorem Inv.nolimit (I : Inv X pins σ H s) : s.heap.NoLimit := I.ok.mod.nolimit.keeps I.bk
theorem Inv.fr (I : Inv X pins σ H s) : ∃ m, Fr X.base X.env.locals s.heap m :=
  let ⟨m, hn, _⟩ := I.loc
  ⟨m, hn, I.bk, Nat.le_trans I.ok.bsz I.ok.above⟩
theorem Inv.lt (I : Inv X pins σ H s) : X.env.locals < s.heap.objs.size := let ⟨_, hn, _⟩ := I.loc; hn.lt
theorem Inv.sz (I : Inv X pins σ H s) : X.s₀.heap.objs.size ≤ s.heap.objs.size := Nat.le_trans I.ok.above (Nat.le_of_lt I.lt)
theorem Inv.nofs (I : Inv X pins σ H s) {a : Addr} (h : s.heap.objs.size ≤ a) : a ∉ X.fs := fun hb => by
  obtain ⟨_, o, ho, _⟩ := I.ok.funs.mem hb
  exact absurd (Nat.lt_of_lt_of_le (Heap.lt_size ho) (Nat.le_trans I.sz h)) (Nat.lt_irrefl _)
theorem Inv.cne (I : Inv X pins σ H s) : ∀ x c, X.env.cells.lookup x = some c → c ≠ X.env.locals := fun x c e z => by
  obtain ⟨v, o, ho, hd⟩ := I.cell x c e
  obtain ⟨m, ⟨o', es, ep, ho', hd', _⟩, _⟩ := I.loc
  rw [z, ho'] at ho; cases ho; rw [hd'] at hd; cases hd
theorem Inv.funs (I : Inv X pins σ H s) : s.heap.FunFrames X.base X.outer := by
  have all : ∀ (l : List Env), (∀ b ∈ frs l, b ∈ X.fs) → X.s₀.heap.FunFrames X.base l → s.heap.FunFrames X.base l := by
    intro l
    induction l with
    | nil => intro _ _; trivial
    | cons env r ih =>
      intro hs hl
      obtain ⟨hk, ⟨L, o, hf, hn, ho, hd⟩, hr⟩ := hl
      have hL : L ∈ X.fs := hs L (by unfold frs; rw [List.filterMap_cons, hf]; exact List.mem_cons_self)
      obtain ⟨sl, e⟩ := I.base.slot L o ho (I.ok.frf L hL) hL fun z => I.ok.exfs L z hL
      exact ⟨hk, ⟨L, _, hf, hn, e, hd⟩, ih (fun b hb => hs b (by unfold frs; rw [List.filterMap_cons, hf]; exact List.mem_cons_of_mem _ hb)) hr⟩
  exact all X.outer (fun _ hb => hb) I.ok.funs
theorem Inv.stack (I : Inv X pins σ H s) : s.heap.FunFrames X.base X.stack := by
  rcases I.ok.stk with e | ⟨e, hf⟩
  · rw [e]; exact I.funs
  · rw [e]
    obtain ⟨m, hn, _⟩ := I.loc
    refine .cons (by rw [I.ok.kind]; decide) hf hn ?_ I.funs
    exact Heap.get?_none_of_le (Nat.le_trans I.ok.bsz I.ok.above)
theorem Inv.stkSub (I : Inv X pins σ H s) : ∀ b ∈ frs X.stack, b ∈ X.env.locals :: X.fs := fun b hb => by
  rcases I.ok.stk with e | ⟨e, hf⟩
  · rw [e] at hb; exact List.mem_cons_of_mem _ hb
  · rw [e] at hb
    unfold frs at hb
    rw [List.filterMap_cons, hf] at hb
    exact hb
theorem Inv.stkFree (I : Inv X pins σ H s) : ∀ b ∈ frs X.stack, H b = none := fun b hb => by
  rcases List.mem_cons.mp (I.stkSub b hb) with e | hb
  · rw [e]; exact I.free
  · obtain ⟨_, o, ho, _⟩ := I.ok.funs.mem hb
    exact I.base.free b o ho (I.ok.frf b hb) fun z => I.ok.exfs b z hb
theorem Inv.step {g' : Array GenState} {t' : Nat} {d' : Drawn} {ch : List Addr} (I : Inv X pins σ H s)
    (hch : ∀ b ∈ ch, (b ∈ X.ex ∨ X.s₀.heap.objs.size ≤ b) ∧ b ≠ X.env.locals ∧ (∀ x c, X.env.cells.lookup x = some c → c ≠ b) ∧ ∀ p ∈ X.pn ++ pins, p.1 ≠ b)
    (keep : ∀ b o, b ≠ X.env.locals → b ∉ X.fs → b ∉ ch → s.heap.get? b = some o → H b = none → h'.get? b = some o)
    (slot : ∀ b o, b ≠ X.env.locals → b ∈ X.fs → b ∉ ch → s.heap.get? b = some o → H b = none → ∃ sl, h'.get? b = some { o with slots := sl }) (free : ∀ b o, b ∉ ch → s.heap.get? b = some o → H b = none → H' b = none)
    (there : ∀ b o, b ∉ ch → s.heap.get? b = some o → ∃ o', h'.get? b = some o')
    (tups : ∀ b xs, H b = some (.tup xs) → H' b = some (.tup xs)) (frzs : ∀ b o u, H b = some (.frz o u) → H' b = some (.frz o u)) (tbls : ∀ b ps, H b = some (.tbl ps) → ∃ more, H' b = some (.tbl (ps ++ more)))
    (ns : ∀ m, s.heap.Ns X.env.locals m → h'.Ns X.env.locals m) (hok : HOk X.prog X.w H' h') (hg : AllBare g') :
    Inv X pins σ H' { s with heap := h', gens := g', drawn := d', toks := t' } := by
  have neL : ∀ b o, X.s₀.heap.get? b = some o → b ≠ X.env.locals := fun b o e => Nat.ne_of_lt (Nat.lt_of_lt_of_le (Heap.lt_size e) I.ok.above)
  have neC : ∀ b o, X.s₀.heap.get? b = some o → b ∉ X.ex → b ∉ ch := fun b o e hx hb => by
    rcases (hch b hb).1 with z | z
    · exact hx z
    · exact absurd (Nat.lt_of_lt_of_le (Heap.lt_size e) z) (Nat.lt_irrefl _)
  have cellK : ∀ x c, X.env.cells.lookup x = some c → ∀ v, s.heap.IsCell c v → h'.IsCell c v := fun x c e v ⟨o, ho, hd⟩ => by
    have nch : c ∉ ch := fun z => (hch c z).2.2.1 x c e rfl
    by_cases hc : c ∈ X.fs
    · obtain ⟨sl, q⟩ := slot c o (I.cne x c e) hc nch ho (I.freeC x c e)
      exact ⟨_, q, hd⟩
    · exact ⟨o, keep c o (I.cne x c e) hc nch ho (I.freeC x c e), hd⟩
  refine ⟨I.ok, I.os, hg, ⟨fun b o e n hb hx => ?_, fun b o e n hb hx => ?_, fun b o e n hx => ?_, fun b o e hx => ?_, fun b xs e => tups b xs (I.base.tups b xs e), fun b o xs e => frzs b o xs (I.base.frzs b o xs e), fun b ps e => ?_⟩, ?_, fun x c e => ?_, ?_, fun x c e => ?_, fun p hp => ?_, hok, I.len⟩
  · exact keep b o (neL b o e) hb (neC b o e hx) (I.base.keep b o e n hb hx) (I.base.free b o e n hx)
  · obtain ⟨sl, e1⟩ := I.base.slot b o e n hb hx
    obtain ⟨sl', e2⟩ := slot b _ (neL b o e) hb (neC b o e hx) e1 (I.base.free b o e n hx)
    exact ⟨sl', e2⟩
  · obtain ⟨o', e1⟩ := I.base.there b o e hx
    exact free b o' (neC b o e hx) e1 (I.base.free b o e n hx)
  · obtain ⟨o', e1⟩ := I.base.there b o e hx
    exact there b o' (neC b o e hx) e1
  · obtain ⟨m1, e1⟩ := I.base.tbls b ps e
    obtain ⟨m2, e2⟩ := tbls b _ e1
    exact ⟨m1 ++ m2, by rw [e2, Array.append_assoc]⟩
  · obtain ⟨m, hn, hl⟩ := I.loc
    refine ⟨m, ns m hn, fun i x v e1 e2 e3 => ?_⟩
    obtain ⟨u, r, l⟩ := hl i x v e1 e2 e3
    refine ⟨u, r, ?_⟩
    rcases l with l | ⟨k, c, e, z⟩
    · exact .inl l
    · exact .inr ⟨k, c, e, cellK x c e _ z⟩
  · obtain ⟨v, z⟩ := I.cell x c e
    exact ⟨v, cellK x c e v z⟩
  · obtain ⟨m, ⟨o, _, _, ho, _⟩, _⟩ := I.loc
    exact free _ o (fun z => (hch _ z).2.1 rfl) ho I.free
  · obtain ⟨v, o, ho, hd⟩ := I.cell x c e
    exact free c o (fun z => (hch c z).2.2.1 x c e rfl) ho (I.freeC x c e)
  · obtain ⟨e, n, ne, nf, d⟩ := I.pin p hp
    have nch : p.1 ∉ ch := fun z => (hch p.1 z).2.2.2 p hp rfl
    exact ⟨keep p.1 p.2 ne nf nch e n, free p.1 p.2 nch e n, ne, nf, d⟩
theorem Inv.un {t' : Nat} (I : Inv X pins σ H s) (u : Un X.fs [] H H' s.heap h') (hok : HOk X.prog X.w H' h') : Inv X pins σ H' { s with heap := h', toks := t' } := by
  obtain ⟨m, ⟨o, es, ep, ho, r⟩, _⟩ := id I.loc
  obtain ⟨sl, hL⟩ := u.any ho I.free (by simp)
  exact I.step (g' := s.gens) (d' := s.drawn) (ch := []) (fun _ z => nomatch z) (fun b o _ hb _ e n => u.keep b o e n hb (by simp)) (fun b o _ hb _ e n => u.slot b o e n hb (by simp)) (fun b o _ e n => u.free b o e n (by simp)) (fun b o _ e => u.there b o e (by simp)) u.tups u.frzs u.tbls (fun m' hm => by
    obtain ⟨o', es', ep', ho', r'⟩ := hm
    rw [ho] at ho'; cases ho'
    exact ⟨_, es', ep', hL, r'⟩) hok I.bare
theorem Inv.call {g' : Array GenState} {t' : Nat} {d' : Drawn} {ch : List Addr} (I : Inv X pins σ H s) (u : Un (frs X.stack) ch H H' s.heap h') (hok : HOk X.prog X.w H' h') (hg : AllBare g')
    (hch : ∀ b ∈ ch, (b ∈ X.ex ∨ X.s₀.heap.objs.size ≤ b) ∧ b ≠ X.env.locals ∧ (∀ x c, X.env.cells.lookup x = some c → c ≠ b) ∧ ∀ p ∈ X.pn ++ pins, p.1 ≠ b) :
    Inv X pins σ H' { s with heap := h', gens := g', drawn := d', toks := t' } := by
  obtain ⟨m, ⟨o, es, ep, ho, r⟩, _⟩ := id I.loc
  obtain ⟨sl, hL⟩ := u.any ho I.free fun z => (hch _ z).2.1 rfl
  exact I.step (ch := ch) hch (fun b o hL hb hc e n => u.keep b o e n (fun z => (List.mem_cons.mp (I.stkSub b z)).elim hL hb) hc) (fun b o _ _ hc e n => u.any e n hc) (fun b o hc e n => u.free b o e n hc) (fun b o hc e => u.there b o e hc) u.tups u.frzs u.tbls (fun m' hm => by
    obtain ⟨o', es', ep', ho', r'⟩ := hm
    rw [ho] at ho'; cases ho'
    exact ⟨_, es', ep', hL, r'⟩) hok hg
theorem Inv.turned {t' : Nat} {it : Addr} (I : Inv X pins σ H s) (k : ∀ b o, b ≠ it → s.heap.get? b = some o → h'.get? b = some o) (hn : H it = none) (hL : it ≠ X.env.locals)
    (h1 : it ∈ X.ex ∨ X.s₀.heap.objs.size ≤ it) (h2 : ∀ x c, X.env.cells.lookup x = some c → c ≠ it) (h3 : ∀ p ∈ X.pn ++ pins, p.1 ≠ it) : Inv X pins σ H { s with heap := h', toks := t' } := by
  have nit : ∀ b u, H b = some u → b ≠ it := fun b u e z => by rw [z, hn] at e; cases e
  refine I.step (g' := s.gens) (d' := s.drawn) (ch := [it]) (fun b hb => ?_) (fun b o _ _ hc e _ => k b o (fun z => hc (by simp [z])) e) (fun b o _ _ hc e _ => ⟨o.slots, k b o (fun z => hc (by simp [z])) e⟩) (fun _ _ _ _ n => n)
    (fun b o hc e => ⟨o, k b o (fun z => hc (by simp [z])) e⟩) (fun _ _ e => e) (fun _ _ _ e => e) (fun b ps e => ⟨#[], by rw [e]; simp⟩) (fun m hm => ?_) (fun b u e => ?_) I.bare
  · have e : b = it := by simpa using hb
    subst e
    exact ⟨h1, hL, h2, h3⟩
  · obtain ⟨o, es, ep, ho, r⟩ := hm
    exact ⟨o, es, ep, k _ o (Ne.symm hL) ho, r⟩
  · refine (I.hok b u e).stay (fun c v hc q => k c v ?_ q) (fun _ q => q) fun _ _ q => q
    rcases hc with z | z
    · rw [z]; exact nit b u e
    · exact nit c _ z
theorem Inv.tok (I : Inv X pins σ H s) (t : Nat) : Inv X pins σ H { s with toks := t } := I.un (h' := s.heap) (t' := t) Un.refl I.hok
theorem Inv.kept {t' : Nat} (I : Inv X pins σ H s) (k : ∀ b u, s.heap.get? b = some u → h'.get? b = some u) : Inv X pins σ H { s with heap := h', toks := t' } := I.un (Un.kept k) (I.hok.kept k)
theorem Inv.laid {a : Addr} {o : HO} {t' : Nat} (I : Inv X pins σ H s) (k : ∀ b u, s.heap.get? b = some u → h'.get? b = some u) (hp : s.heap.objs.size ≤ a) (new : bL X.prog X.w (upd H a o) h' a o) :
    Inv X pins σ (upd H a o) { s with heap := h', toks := t' } := I.un (Un.laid k hp (I.hok.fresh hp)) (I.hok.laid k hp new)
theorem Inv.write {x e : Addr} {o : HO} {t' : Nat} (I : Inv X pins σ H s) (mu : Mut (H x)) (he : e = x ∨ H e = some (.own x)) (k : ∀ b u, b ≠ e → s.heap.get? b = some u → h'.get? b = some u) (heo : ∃ u, h'.get? e = some u)
    (new : bL X.prog X.w (upd H x o) h' x o) : Inv X pins σ (upd H x o) { s with heap := h', toks := t' } := I.un (Un.write mu he k heo) (I.hok.write mu he k heo new)
theorem Inv.pins_of {pins' : List (Addr × Obj)} (I : Inv X pins σ H s) (h : ∀ p ∈ pins', s.heap.get? p.1 = some p.2 ∧ H p.1 = none ∧ p.1 ≠ X.env.locals ∧ p.1 ∉ X.fs ∧ ∀ v, p.2.data ≠ .cell v) : Inv X pins' σ H s :=
  ⟨I.ok, I.os, I.bare, I.base, I.loc, I.cell, I.free, I.freeC, fun p hp => (List.mem_append.mp hp).elim (fun z => I.pin p (List.mem_append_left _ z)) (h p), I.hok, I.len⟩
theorem pk {N : List Str} (hN : N.Nodup) {i j : Nat} {x : Str} (a : N[i]? = some x) (b : N[j]? = some x) : i = j := by
  obtain ⟨h1, e1⟩ := List.getElem?_eq_some_iff.mp a
  obtain ⟨h2, e2⟩ := List.getElem?_eq_some_iff.mp b
  exact (List.getElem_inj hN).mp (e1.trans e2.symm)
theorem tM {M : Model} {A : Around} {E : Value → Shared → Prop} {i : Nat} {x : Str} {v : V} {u : Value} {Q : Unit → Shared → Prop} (I : Inv X pins σ H s) (hN : X.N.Nodup) (hi : X.N[i]? = some x) (hx : Loc X.env.scope x) (r : RelV v u)
    (h : ∀ s', Inv X pins (σ.set i (some v)) H s' → (∃ a, Heap.SameBut a s.heap s'.heap ∧ (a = X.env.locals ∨ X.env.cells.lookup x = some a)) → Q () s') (hf : X.fn x = true ∨ X.env.scope.names.lookup x = some .local := by first | exact .inl rfl | exact .inr rfl | assumption) : wpAny M A (storeName X.env x u) Q E s := by
  obtain ⟨m, hn, hl⟩ := id I.loc
  have hcls : (X.env.scope.kind == .class || (X.env.scope.kind == .module && X.env.locals != X.env.globals)) = false := by rw [I.ok.kind]; rfl
  have hiσ : i < σ.length := by rw [I.len]; exact (List.getElem?_eq_some_iff.mp hi).1
  have cne := I.cne
  have tracked : ∀ {a : Addr} {h' : Heap}, (∃ o, s.heap.get? a = some o ∧ H a = none) → Heap.SameBut a s.heap h' → HOk X.prog X.w H h' := fun {a h'} ha hs b ob e => by
    obtain ⟨_, _, hfree⟩ := ha
    refine (I.hok b ob e).stay (fun c w' hc q => (hs.2 c ?_).trans q) (fun _ q => q) fun _ _ q => q
    rintro rfl
    rcases hc with rfl | hc
    · rw [hfree] at e; cases e
    · rw [hfree] at hc; cases hc
  rcases hx with hk | hk
  · refine wpAny_storeName_local hk hn (fun h' hn' hs => ?_) hcls
    obtain ⟨oL, _, _, hoL, _⟩ := id hn
    refine h _ ⟨I.ok, I.os, I.bare, ⟨fun b o e n hb hx => ?_, fun b o e n hb hx => ?_, I.base.free, fun b o e hx => ?_, I.base.tups, I.base.frzs, I.base.tbls⟩, ⟨_, hn', fun j y v' e1 e2 e3 => ?_⟩, fun y c e => ?_, I.free, I.freeC, fun p hp => ?_, tracked ⟨oL, hoL, I.free⟩ hs, by simpa using I.len⟩ ⟨_, hs, .inl rfl⟩
    · exact (hs.2 b (Nat.ne_of_lt (Nat.lt_of_lt_of_le (Heap.lt_size e) I.ok.above))).trans (I.base.keep b o e n hb hx)
    · obtain ⟨sl, e1⟩ := I.base.slot b o e n hb hx
      exact ⟨sl, (hs.2 b (Nat.ne_of_lt (Nat.lt_of_lt_of_le (Heap.lt_size e) I.ok.above))).trans e1⟩
    · obtain ⟨o', e1⟩ := I.base.there b o e hx
      exact ⟨o', (hs.2 b (Nat.ne_of_lt (Nat.lt_of_lt_of_le (Heap.lt_size e) I.ok.above))).trans e1⟩
    · by_cases hj : j = i
      · subst hj
        rw [hi] at e1; cases e1
        rw [List.getElem?_set_self hiσ] at e2
        cases e2
        exact ⟨u, r, .inl ⟨hk, by simp⟩⟩
      · rw [List.getElem?_set_ne (Ne.symm hj)] at e2
        obtain ⟨u', r', q⟩ := hl j y v' e1 e2 e3
        refine ⟨u', r', ?_⟩
        rcases q with ⟨k, e⟩ | ⟨k, c, e, z⟩
        · refine .inl ⟨k, ?_⟩
          have : y ≠ x := fun e => hj (pk hN e1 (e ▸ hi))
          simp [this, e]
        · exact .inr ⟨k, c, e, z.sameBut hs (cne y c e)⟩
    · obtain ⟨w', z⟩ := I.cell y c e
      exact ⟨w', z.sameBut hs (cne y c e)⟩
    · obtain ⟨e, n, ne, nf, d⟩ := I.pin p hp
      exact ⟨(hs.2 p.1 ne).trans e, n, ne, nf, d⟩
  · have hfn : X.fn x = true := by
      rcases hf with z | z
      · exact z
      · rw [z] at hk; cases hk
    obtain ⟨c, hc⟩ := I.ok.has x (.inl hk)
    obtain ⟨w', z⟩ := I.cell x c hc
    refine wpAny_storeName_cell I.ok.kind hk hc z (fun h' hc' hs => ?_)
    obtain ⟨oc, hoc, hocd⟩ := id z
    refine h { s with heap := h' } ⟨I.ok, I.os, I.bare, ⟨fun b o e n hb hx => ?_, fun b o e n hb hx => ?_, I.base.free, fun b o e hx => ?_, I.base.tups, I.base.frzs, I.base.tbls⟩, ⟨m, hn.sameBut hs (Ne.symm (cne x c hc)), fun j y v' e1 e2 e3 => ?_⟩, fun y c' e => ?_, I.free, I.freeC, fun p hp => ?_, tracked ⟨oc, hoc, I.freeC x c hc⟩ hs, by simpa using I.len⟩ ⟨c, hs, .inr hc⟩
    · exact (hs.2 b (Nat.ne_of_lt (Nat.lt_of_lt_of_le (Heap.lt_size e) (I.ok.cab x c hfn hc)))).trans (I.base.keep b o e n hb hx)
    · obtain ⟨sl, e1⟩ := I.base.slot b o e n hb hx
      exact ⟨sl, (hs.2 b (Nat.ne_of_lt (Nat.lt_of_lt_of_le (Heap.lt_size e) (I.ok.cab x c hfn hc)))).trans e1⟩
    · obtain ⟨o', e1⟩ := I.base.there b o e hx
      exact ⟨o', (hs.2 b (Nat.ne_of_lt (Nat.lt_of_lt_of_le (Heap.lt_size e) (I.ok.cab x c hfn hc)))).trans e1⟩
    · by_cases hj : j = i
      · subst hj
        rw [hi] at e1; cases e1
        rw [List.getElem?_set_self hiσ] at e2
        cases e2
        exact ⟨u, r, .inr ⟨.inl hk, c, hc, hc'⟩⟩
      · rw [List.getElem?_set_ne (Ne.symm hj)] at e2
        obtain ⟨u', r', q⟩ := hl j y v' e1 e2 e3
        refine ⟨u', r', ?_⟩
        rcases q with q | ⟨k, c', e, z'⟩
        · exact .inl q
        · refine .inr ⟨k, c', e, z'.sameBut hs ?_⟩
          rintro rfl
          exact hj (pk hN e1 (I.ok.inj _ _ _ e hc ▸ hi))
    · by_cases hcc : c' = c
      · subst hcc; exact ⟨_, hc'⟩
      · obtain ⟨w2, z2⟩ := I.cell y c' e
        exact ⟨w2, z2.sameBut hs hcc⟩
    · obtain ⟨e, n, ne, nf, d⟩ := I.pin p hp
      refine ⟨(hs.2 p.1 ?_).trans e, n, ne, nf, d⟩
      intro q
      rw [q, hoc] at e
      have q' : oc = p.2 := Option.some.inj e
      exact d w' (by rw [← q']; exact hocd)
theorem px {M : Model} {A : Around} {E : Value → Shared → Prop} {i : Nat} {x : Str} {v : V} {u : Value} {Q : Unit → Shared → Prop} (I : Inv X pins σ H s) (hN : X.N.Nodup) (hi : X.N[i]? = some x) (hx : Loc X.env.scope x) (r : RelV v u)
    (h : ∀ s', Inv X pins (σ.set i (some v)) H s' → Q () s') (hf : X.fn x = true ∨ X.env.scope.names.lookup x = some .local := by first | exact .inl rfl | exact .inr rfl | assumption) : wpAny M A (storeName X.env x u) Q E s :=
  tM I hN hi hx r (fun s' I' _ => h s' I') hf
theorem Inv.call' {s' : Shared} {ch : List Addr} (I : Inv X pins σ H s) (ho : s'.os = s.os) (u : Un (frs X.stack) ch H H' s.heap s'.heap) (hok : HOk X.prog X.w H' s'.heap) (hg : AllBare s'.gens)
    (hch : ∀ b ∈ ch, (b ∈ X.ex ∨ X.s₀.heap.objs.size ≤ b) ∧ b ≠ X.env.locals ∧ (∀ x c, X.env.cells.lookup x = some c → c ≠ b) ∧ ∀ p ∈ X.pn ++ pins, p.1 ≠ b) : Inv X pins σ H' s' := by
  obtain ⟨h', g', d', t', o'⟩ := s'
  have e : o' = s.os := ho
  subst e
  exact I.call (g' := g') (t' := t') (d' := d') u hok hg hch
end
noncomputable abbrev XK := Value → Option Addr → Hp → Prop
noncomputable abbrev St := List (Option V)
noncomputable abbrev VK := V → Hp → Prop
noncomputable abbrev TE := St → Hp → VK → Prop
noncomputable abbrev TT := St → Hp → (Bool → Hp → Prop) → Prop
noncomputable abbrev TA := St → Hp → (List V → Hp → Prop) → Prop
structure Ends where
  nx : St → Hp → Prop
  rt : VK
  bk : St → Hp → Prop := fun _ _ => False
  ct : St → Hp → Prop := fun _ _ => False
noncomputable abbrev TS := Ends → St → Hp → Prop
noncomputable def EP (X : Cx) (pins : List (Addr × Obj)) (σ : St) (Q : VK) (u : Value) (s' : Shared) : Prop := ∃ v H', Inv X pins σ H' s' ∧ RelV v u ∧ Q v H'
noncomputable def TP (X : Cx) (pins : List (Addr × Obj)) (σ : St) (Q : Bool → Hp → Prop) (b : Bool) (s' : Shared) : Prop := ∃ H', Inv X pins σ H' s' ∧ Q b H'
noncomputable def AP (X : Cx) (pins : List (Addr × Obj)) (σ : St) (Q : List V → Hp → Prop) (us : List Value) (s' : Shared) : Prop := ∃ vs H', Inv X pins σ H' s' ∧ Vals vs us ∧ Q vs H'
noncomputable def SP (X : Cx) (pins : List (Addr × Obj)) (D : Ends) (f : Flow) (s' : Shared) : Prop :=
  match f with
  | .next => ∃ σ' H', Inv X pins σ' H' s' ∧ D.nx σ' H'
  | .brk => ∃ σ' H', Inv X pins σ' H' s' ∧ D.bk σ' H'
  | .cont => ∃ σ' H', Inv X pins σ' H' s' ∧ D.ct σ' H'
  | .ret u => ∃ v σ' H', Inv X pins σ' H' s' ∧ RelV v u ∧ D.rt v H'
noncomputable def PE (X : Cx) (e : Expr) (t : TE) : Prop :=
  ∀ (pins : List (Addr × Obj)) (s : Shared) (σ : St) (H : Hp) (Q : VK), Inv X pins σ H s → t σ H Q → wpAny (model X.prog X.w) X.A (eval e X.env) (EP X pins σ Q) X.xe s
noncomputable def PT (X : Cx) (e : Expr) (t : TT) : Prop :=
  ∀ (pins : List (Addr × Obj)) (s : Shared) (σ : St) (H : Hp) (Q : Bool → Hp → Prop), Inv X pins σ H s → t σ H Q → wpAny (model X.prog X.w) X.A (isTrue e X.env (eval e X.env)) (TP X pins σ Q) X.xe s
noncomputable def PW (X : Cx) (e : Expr) (t : TT) : Prop :=
  ∀ (whole : Sem Value) (pins : List (Addr × Obj)) (s : Shared) (σ : St) (H : Hp) (Q : Bool → Hp → Prop), Inv X pins σ H s → t σ H Q → wpAny (model X.prog X.w) X.A (isTrue e X.env whole) (TP X pins σ Q) X.xe s
theorem PW.pt {X : Cx} {e : Expr} {t : TT} (h : PW X e t) : PT X e t := h _
noncomputable def PA (X : Cx) (es : List Expr) (t : TA) : Prop :=
  ∀ (pos : Pos) (pins : List (Addr × Obj)) (s : Shared) (σ : St) (H : Hp) (Q : List V → Hp → Prop), Inv X pins σ H s → t σ H Q → wpAny (model X.prog X.w) X.A (spliced (backTo pos (starEach es X.env))) (AP X pins σ Q) X.xe s
noncomputable def PS (X : Cx) (st : Stmt) (t : TS) : Prop :=
  ∀ (pins : List (Addr × Obj)) (s : Shared) (σ : St) (H : Hp) (D : Ends), Inv X pins σ H s → t D σ H → wpAny (model X.prog X.w) X.A (exec st X.env) (SP X pins D) X.xe s
noncomputable def PSs (X : Cx) (st : List Stmt) (t : TS) : Prop :=
  ∀ (pins : List (Addr × Obj)) (s : Shared) (σ : St) (H : Hp) (D : Ends), Inv X pins σ H s → t D σ H → wpAny (model X.prog X.w) X.A (execs st X.env) (SP X pins D) X.xe s
theorem thn {α : Type} {t : Sem α} {Q Q' : α → Shared → Prop} {M : Model} {A : Around} {E : Value → Shared → Prop} {s : Shared} (h : wpAny M A t Q E s) (hQ : ∀ a s, Q a s → Q' a s) : wpAny M A t Q' E s := wpAny_mono h hQ fun _ _ x => x
end L2
namespace L2
open PySem PySem.Spec PyProof.Rows
section
variable {X : Cx}
noncomputable def eV (i : Nat) : TE := fun σ H Q => ∃ v, σ[i]? = some (some v) ∧ Q v H
noncomputable def tC (v : V) : TE := fun _ H Q => Q v H
theorem xN {i : Nat} {x : Str} {pos : Pos} (hN : X.N[i]? = some x) (hv : Vis X.env.scope x) (hd : (x == ("__debug__" : Str)) = false := by decide) (hcd : (x == ("__classdict__" : Str)) = false := by decide) : PE X (.Name x pos) (eV i) := by
  intro pins s σ H Q I h
  obtain ⟨v, e, h⟩ := h
  obtain ⟨m, hn, hl⟩ := I.loc
  obtain ⟨u, r, l⟩ := hl i x v hN e hv
  have fin : EP X pins σ Q u s := ⟨v, H, I, r, h⟩
  rcases l with ⟨hk, hm⟩ | ⟨hk, c, hc, hcell⟩
  · exact wpAny_Name (wpAny_loadName_local I.ok.kind hk hn hm fin) hd
  · rcases hk with hk | hk
    · exact wpAny_Name (wpAny_loadName_cell I.ok.kind hk hc hcell fin) hd
    · exact wpAny_Name (wpAny_loadName_free I.ok.kind hk hc hcell fin hcd) hd
theorem wt {i j pos} : PE X (.Constant (.int i) j pos) (tC (.int i)) := fun _ _ _ H _ I h => wpAny_Constant_int ⟨.int i, H, I.tok _, ⟨_, rfl⟩, h⟩
theorem uB {b j pos} : PE X (.Constant (.bool b) j pos) (tC (.bl b)) := fun _ _ _ H _ I h => Constant_bool ⟨.bl b, H, I, rfl, h⟩
theorem uO {j pos} : PE X (.Constant .none j pos) (tC .non) := fun _ _ _ H _ I h => Constant_none ⟨.non, H, I, rfl, h⟩
theorem mm {x j pos} : PE X (.Constant (.str x) j pos) (tC (.str x)) := fun _ _ _ H _ I h => Calls.Constant_str ⟨.str x, H, I.tok _, ⟨_, rfl⟩, h⟩
noncomputable def Gl (X : Cx) (x : Str) : Prop := X.env.kindOf x = some .globalImplicit
theorem iO {E : Value → Shared → Prop} {pins : List (Addr × Obj)} {s : Shared} {σ : St} {H : Hp} {x : Str} {u : Value} {pos : Pos} {Q : Value → Shared → Prop} (I : Inv X pins σ H s) (hg : Gl X x) (hm : X.mg x = some u) (h : Q u s)
    (hd : (x == ("__debug__" : Str)) = false := by decide) : wpAny (model X.prog X.w) X.A (eval (.Name x pos) X.env) Q E s :=
  Calls.Name_function_global I.ok.kind hg (Calls.loadGlobal_global (by rw [I.ok.glob]; exact I.mod.glob.keeps I.bk) hm h) hd
theorem mM {E : Value → Shared → Prop} {pins : List (Addr × Obj)} {s : Shared} {σ : St} {H : Hp} {x : Str} {u : Value} {pos : Pos} {Q : Value → Shared → Prop} (I : Inv X pins σ H s) (hg : Gl X x) (hm : X.mg x = none) (hv : bootBuiltins x = some u) (h : Q u s)
    (hn : x ≠ "__name__" := by decide) (hd : (x == ("__debug__" : Str)) = false := by decide) : wpAny (model X.prog X.w) X.A (eval (.Name x pos) X.env) Q E s := by
  obtain ⟨mb, h1, h2⟩ := I.mod.blt
  exact Calls.Name_function_global I.ok.kind hg (Calls.loadGlobal_builtin (by rw [I.ok.glob]; exact I.mod.glob.keeps I.bk) hm (by rw [I.ok.blt]; exact h1.keeps I.bk) ((h2 x hn).trans hv) h) hd
theorem ez {x : Str} {v : V} {u : Value} {pos : Pos} (hg : Gl X x) (hm : X.mg x = some u) (r : RelV v u) (hd : (x == ("__debug__" : Str)) = false := by decide) : PE X (.Name x pos) (tC v) :=
  fun _ _ _ H _ I h => iO I hg hm ⟨v, H, I, r, h⟩ hd
theorem pN {x : Str} {v : V} {u : Value} {pos : Pos} (hg : Gl X x) (hm : X.mg x = none) (hv : bootBuiltins x = some u) (r : RelV v u) (hn : x ≠ "__name__" := by decide) (hd : (x == ("__debug__" : Str)) = false := by decide) : PE X (.Name x pos) (tC v) :=
  fun _ _ _ H _ I h => mM I hg hm hv ⟨v, H, I, r, h⟩ hn hd
variable {a b : Expr} {ta tb : TE} {pos : Pos}
noncomputable def tB (t : TE) : TT := fun σ H Q => t σ H fun x H1 => ∃ c, x = .bl c ∧ Q c H1
theorem AN {e : Expr} {t : TE} (h : PE X e t) (he : ∀ whole, isTrue e X.env whole = (do let v ← whole; standAt e.pos; holding [v] (truthy v)) := by intro _; rfl) : PT X e (tB t) := by
  intro pins s σ H Q I hw
  refine isTrue_plain (thn (h pins s σ H _ I hw) fun v s1 ⟨x, H1, I1, r1, q1⟩ => ?_) (he _)
  obtain ⟨d, rfl, q⟩ := q1
  cases r1
  exact wpAny_truthy_bool ⟨H1, I1, q⟩
variable {tA tB' : TT} {rest : List Expr}
noncomputable def pC (t u : TT) : TT := fun σ H Q => t σ H fun c H1 => if c = true then u σ H1 Q else Q false H1
noncomputable def tOr (t u : TT) : TT := fun σ H Q => t σ H fun c H1 => if c = true then Q true H1 else u σ H1 Q
noncomputable def rD (t : TT) : TT := fun σ H Q => t σ H fun c H1 => Q (!c) H1
theorem wU (ha : PT X a tA) : PW X (.BoolOp .And [a] pos) tA := by
  intro wh pins s σ H Q I h
  refine isTrue_and (thn (ha pins s σ H Q I h) fun c s1 e => ?_)
  cases c with
  | true => exact isTrue_and_nil e
  | false => exact e
theorem zb (ha : PT X a tA) : PW X (.BoolOp .Or [a] pos) tA := by
  intro wh pins s σ H Q I h
  refine isTrue_or (thn (ha pins s σ H Q I h) fun c s1 e => ?_)
  cases c with
  | false => exact isTrue_or_nil e
  | true => exact e
theorem uu (ha : PT X a tA) (hb : PW X (.BoolOp .And (b :: rest) pos) tB') : PW X (.BoolOp .And (a :: b :: rest) pos) (pC tA tB') := by
  intro wh pins s σ H Q I h
  refine isTrue_and (thn (ha pins s σ H _ I h) fun c s1 ⟨H1, I1, q1⟩ => ?_)
  cases c with
  | true => exact hb wh pins s1 σ H1 Q I1 q1
  | false => exact ⟨H1, I1, q1⟩
theorem By (ha : PT X a tA) (hb : PW X (.BoolOp .Or (b :: rest) pos) tB') : PW X (.BoolOp .Or (a :: b :: rest) pos) (tOr tA tB') := by
  intro wh pins s σ H Q I h
  refine isTrue_or (thn (ha pins s σ H _ I h) fun c s1 ⟨H1, I1, q1⟩ => ?_)
  cases c with
  | true => exact ⟨H1, I1, q1⟩
  | false => exact hb wh pins s1 σ H1 Q I1 q1
theorem xG (ha : PT X a tA) : PT X (.UnaryOp .Not a pos) (rD tA) := by
  intro pins s σ H Q I h
  exact isTrue_not (ha pins s σ H (fun c H1 => Q (!c) H1) I h)
noncomputable def sH (ta tb : TE) : TE := fun σ H Q => ta σ H fun x H1 => ∃ c, x = .bl c ∧ if c = true then tb σ H1 Q else Q (.bl false) H1
noncomputable def uf (ta : TE) : TE := fun σ H Q => ta σ H fun x H1 => ∃ c, x = .bl c ∧ Q (.bl (!c)) H1
theorem AI {op} {t : TE} (h : PE X a t) : PE X (.BoolOp op [a] pos) t := fun pins s σ H Q I hw => BoolOp_one (h pins s σ H Q I hw)
theorem u7 (ha : PE X a ta) (hb : PE X (.BoolOp .And (b :: rest) pos) tb) : PE X (.BoolOp .And (a :: b :: rest) pos) (sH ta tb) := by
  intro pins s σ H Q I h
  refine BoolOp_and (thn (ha pins s σ H _ I h) fun v s1 ⟨x, H1, I1, r1, q1⟩ => ?_)
  obtain ⟨c, rfl, q1⟩ := q1
  cases r1
  refine wpAny_truthy_bool ?_
  cases c with
  | true => exact hb pins s1 σ H1 Q I1 q1
  | false => exact ⟨.bl false, H1, I1, rfl, q1⟩
theorem zL (ha : PE X a ta) : PE X (.UnaryOp .Not a pos) (uf ta) := by
  intro pins s σ H Q I h
  refine UnaryOp_ (thn (ha pins s σ H _ I h) fun v s1 ⟨x, H1, I1, r1, q1⟩ => ?_)
  obtain ⟨c, rfl, q1⟩ := q1
  cases r1
  exact not_of (wpAny_truthy_bool ⟨.bl (!c), H1, I1, rfl, q1⟩)
end
end L2
namespace L2
open PySem PySem.Spec PyProof.Rows
noncomputable def SqL (K : PySem.W.Frag) (H : Hp) (a : Addr) (xs : List V) : Prop :=
  Rd H a (.lst xs) ∨
    ∃ (o : Obj) (its : Array Value) (n : Nat), K.lookup a = some o ∧ o.cls = .type "list" ∧ o.dict = none ∧ o.data = .seq its n ∧ its.size ≤ sizeLine ∧ Vals xs its.toList
noncomputable def SqT (K : PySem.W.Frag) (H : Hp) (a : Addr) (xs : List V) : Prop :=
  Rd H a (.tup xs) ∨
    ∃ (o : Obj) (its : Array Value) (n : Nat), K.lookup a = some o ∧ o.cls = .type "tuple" ∧ o.data = .seq its n ∧ its.size ≤ sizeLine ∧ Vals xs its.toList
noncomputable def yl : Value → Option V
  | .none => some .non
  | .bool b => some (.bl b)
  | .int i _ => some (.int i)
  | .str x _ => some (.str x)
  | .bytes b _ => some (.byt b)
  | .float b _ => some (.flt b)
  | .ref a => some (.ref a)
  | .type n => some (.ty n)
  | _ => none
theorem RelV.abs {x : V} {u : Value} (r : RelV x u) : yl u = some x := by
  cases x with
  | non => cases r; rfl
  | bl _ => cases r; rfl
  | int _ => obtain ⟨t, rfl⟩ := r; rfl
  | str _ => obtain ⟨t, rfl⟩ := r; rfl
  | byt _ => obtain ⟨t, rfl⟩ := r; rfl
  | flt _ => obtain ⟨t, rfl⟩ := r; rfl
  | ref _ => cases r; rfl
  | ty _ => cases r; rfl
theorem RelV.inj {x y : V} {u : Value} (r : RelV x u) (q : RelV y u) : x = y := Option.some.inj (r.abs.symm.trans q.abs)
theorem Vals.inj : ∀ {xs ys : List V} {us : List Value}, Vals xs us → Vals ys us → xs = ys
  | _, _, _, .nil, .nil => rfl
  | _, _, _, .cons r t, .cons r' t' => by rw [r.inj r', Vals.inj t t']
section
variable {X : Cx} {pins : List (Addr × Obj)} {σ : St} {H : Hp} {s : Shared} {a : Addr} {xs ys : List V}
theorem SqL.of {K : PySem.W.Frag} (h : H a = some (.lst xs)) : SqL K H a xs := .inl (.inl h)
theorem SqT.of {K : PySem.W.Frag} (h : H a = some (.tup xs)) : SqT K H a xs := .inl (.inl h)
theorem Inv.list (I : Inv X pins σ H s) (h : SqL X.K H a xs) : ∃ its : List Value, Vals xs its ∧ PlainL s.heap a its.toArray ∧ xs.length ≤ sizeLine := by
  rcases h with h | ⟨o, its, n, hk, hc, hd, hs, hz, r⟩
  · obtain ⟨z, its, n, r, e⟩ := h.ok I.hok
    exact ⟨its, r, ⟨_, n, e, rfl, rfl, rfl⟩, z⟩
  · refine ⟨its.toList, r, ⟨o, n, I.kIn a o hk, hc, hd, by simpa using hs⟩, ?_⟩
    have e := r.length
    simp only [Array.length_toList] at e
    omega
theorem Inv.tuple (I : Inv X pins σ H s) (h : SqT X.K H a xs) : ∃ its : List Value, Vals xs its ∧ IsTup s.heap a its.toArray ∧ xs.length ≤ sizeLine := by
  rcases h with h | ⟨o, its, n, hk, hc, hs, hz, r⟩
  · obtain ⟨z, its, r, p⟩ := h.ok I.hok
    exact ⟨its, r, p, z⟩
  · refine ⟨its.toList, r, ⟨o, I.kIn a o hk, hc, n, by simpa using hs⟩, ?_⟩
    have e := r.length
    simp only [Array.length_toList] at e
    omega
theorem Inv.list_inj (I : Inv X pins σ H s) (h : SqL X.K H a xs) (h' : SqL X.K H a ys) : xs = ys := by
  obtain ⟨its, r, ⟨o, n, e, _, _, d⟩, _⟩ := I.list h
  obtain ⟨its', r', ⟨o', n', e', _, _, d'⟩, _⟩ := I.list h'
  rw [e] at e'; cases e'
  rw [d] at d'
  injection d' with d1 _
  have : its = its' := by simpa using congrArg Array.toList d1
  subst this
  exact r.inj r'
theorem Inv.tuple_inj (I : Inv X pins σ H s) (h : SqT X.K H a xs) (h' : SqT X.K H a ys) : xs = ys := by
  obtain ⟨its, r, ⟨o, e, _, n, d⟩, _⟩ := I.tuple h
  obtain ⟨its', r', ⟨o', e', _, n', d'⟩, _⟩ := I.tuple h'
  rw [e] at e'; cases e'
  rw [d] at d'
  injection d' with d1 _
  have : its = its' := by simpa using congrArg Array.toList d1
  subst this
  exact r.inj r'
end
noncomputable abbrev Cx.wish (X : Cx) (E : Value → Shared → Prop) : Cx := { X with xe := E }
noncomputable abbrev Cx.nox (X : Cx) : Cx := X.wish fun _ _ => False
theorem Cx.Ok.wish {X : Cx} (ok : X.Ok) (E : Value → Shared → Prop) : (X.wish E).Ok :=
  ⟨ok.mod, ok.kind, ok.glob, ok.blt, ok.above, ok.inj, ok.has, ok.cab, ok.hd, ok.frames, ok.stk, ok.exf, ok.bs, ok.bsz, ok.noex, ok.exfs, ok.funs, ok.frf⟩
theorem Cx.Ok.unwish {X : Cx} {E : Value → Shared → Prop} (ok : (X.wish E).Ok) : X.Ok :=
  ⟨ok.mod, ok.kind, ok.glob, ok.blt, ok.above, ok.inj, ok.has, ok.cab, ok.hd, ok.frames, ok.stk, ok.exf, ok.bs, ok.bsz, ok.noex, ok.exfs, ok.funs, ok.frf⟩
section
variable {X : Cx} {pins : List (Addr × Obj)} {σ : St} {H : Hp} {s : Shared} {E : Value → Shared → Prop}
theorem Inv.wish (I : Inv X pins σ H s) (E : Value → Shared → Prop) : Inv (X.wish E) pins σ H s := ⟨I.ok.wish E, I.os, I.bare, I.base, I.loc, I.cell, I.free, I.freeC, I.pin, I.hok, I.len⟩
theorem Inv.unwish (I : Inv (X.wish E) pins σ H s) : Inv X pins σ H s := ⟨I.ok.unwish, I.os, I.bare, I.base, I.loc, I.cell, I.free, I.freeC, I.pin, I.hok, I.len⟩
theorem SP.unwish {D : Ends} {f : Flow} {s' : Shared} (h : SP (X.wish E) pins D f s') : SP X pins D f s' := by
  cases f with
  | next => obtain ⟨σ', H', I, q⟩ := h; exact ⟨σ', H', I.unwish, q⟩
  | brk => obtain ⟨σ', H', I, q⟩ := h; exact ⟨σ', H', I.unwish, q⟩
  | cont => obtain ⟨σ', H', I, q⟩ := h; exact ⟨σ', H', I.unwish, q⟩
  | ret u => obtain ⟨v, σ', H', I, r, q⟩ := h; exact ⟨v, σ', H', I.unwish, r, q⟩
theorem PE.nox {e : Expr} {t : TE} (h : PE X.nox e t) : PE X e t := fun pins s σ H Q I hw =>
  wpAny_mono (h pins s σ H Q (I.wish _) hw) (fun _ _ ⟨v, H', I', r, q⟩ => ⟨v, H', I'.unwish, r, q⟩) fun _ _ z => False.elim z
theorem PT.nox {e : Expr} {t : TT} (h : PT X.nox e t) : PT X e t := fun pins s σ H Q I hw =>
  wpAny_mono (h pins s σ H Q (I.wish _) hw) (fun _ _ ⟨H', I', q⟩ => ⟨H', I'.unwish, q⟩) fun _ _ z => False.elim z
theorem PSs.nox {st : List Stmt} {t : TS} (h : PSs X.nox st t) : PSs X st t := fun pins s σ H D I hw =>
  wpAny_mono (h pins s σ H D (I.wish _) hw) (fun _ _ q => q.unwish) fun _ _ z => False.elim z
end
section
variable {X : Cx} {st : Stmt} {rest : List Stmt} {t u : TS} {e : Expr} {te : TE} {pos : Pos}
noncomputable def pF : TS := fun D σ H => D.nx σ H
noncomputable def lV (t u : TS) : TS := fun D σ H => t { D with nx := u D } σ H
theorem xO : PSs X [] pF := fun _ _ σ H _ I h => wpAny_execs_nil ⟨σ, H, I, h⟩
theorem nE (h1 : PS X st t) (h2 : PSs X rest u) : PSs X (st :: rest) (lV t u) := by
  intro pins s σ H D I h
  refine wpAny_execs_cons (thn (h1 pins s σ H { D with nx := u D } I h) fun f s1 q => ?_)
  cases f with
  | next =>
    obtain ⟨σ', H', I', q⟩ := q
    exact h2 pins s1 σ' H' D I' q
  | ret v => exact q
  | brk => exact q
  | cont => exact q
theorem nq (h1 : PS X st t) : PSs X [st] t := by
  intro pins s σ H D I h
  refine wpAny_execs_cons (thn (h1 pins s σ H D I h) fun f s1 q => ?_)
  cases f with
  | next => exact wpAny_execs_nil q
  | ret v => exact q
  | brk => exact q
  | cont => exact q
theorem Inv.quiet {pins : List (Addr × Obj)} {σ : St} {H : Hp} {s : Shared} (I : Inv X pins σ H s) : interactive X.env = false := by simp [interactive, I.ok.kind]
noncomputable def qJ (te : TE) : TS := fun D σ H => te σ H fun _ H1 => D.nx σ H1
theorem km (he : PE X e te) (hs : swapsWith e none pos.line X.env = pure false := by rfl) : PS X (.Expr e pos) (qJ te) := by
  intro pins s σ H D I h
  exact wpAny_Expr_any (thn (he pins s σ H _ I h) fun v s1 ⟨x, H1, I1, r1, q1⟩ => ⟨σ, H1, I1, q1⟩) I.quiet hs
noncomputable def qi (te : TE) : TS := fun D σ H => te σ H D.rt
theorem zD (he : PE X e te) : PS X (.Return (some e) pos) (qi te) := by
  intro pins s σ H D I h
  exact wpAny_Return_some (thn (he pins s σ H _ I h) fun v s1 ⟨x, H1, I1, r1, q1⟩ => ⟨x, σ, H1, I1, r1, q1⟩)
noncomputable def si (c : TT) (t u : TS) : TS := fun D σ H => c σ H fun b H1 => if b = true then t D σ H1 else u D σ H1
theorem wM {c : Expr} {a b : List Stmt} {tc : TT} (hc : PT X c tc) (ha : PSs X a t) (hb : PSs X b u) : PS X (.If c a b pos) (si tc t u) := by
  intro pins s σ H D I h
  refine wpAny_If (thn (hc pins s σ H _ I h) fun d s1 ⟨H1, I1, q1⟩ => ?_)
  cases d with
  | true => exact ha pins s1 σ H1 D I1 q1
  | false => exact hb pins s1 σ H1 D I1 q1
end
noncomputable abbrev TG := V → St → Hp → (St → Hp → Prop) → Prop
noncomputable def PG (X : Cx) (target : Expr) (t : TG) : Prop :=
  ∀ (pins : List (Addr × Obj)) (s : Shared) (σ : St) (H : Hp) (v : V) (u : Value) (Q : St → Hp → Prop), Inv X pins σ H s → RelV v u → t v σ H Q →
    wpAny (model X.prog X.w) X.A (assign target X.env u) (fun _ s' => ∃ σ' H', Inv X pins σ' H' s' ∧ Q σ' H') X.xe s
noncomputable abbrev oF := V → V → V → Hp → (Hp → Prop) → Prop
noncomputable def sY (X : Cx) (t : oF) : Prop :=
  ∀ (pins : List (Addr × Obj)) (s : Shared) (σ : St) (H : Hp) (o i v : V) (ov iv u : Value) (Q : Hp → Prop), Inv X pins σ H s → RelV o ov → RelV i iv → RelV v u → t o i v H Q →
    wpAny (model X.prog X.w) X.A (setItem ov iv u) (fun _ s' => ∃ H', Inv X pins σ H' s' ∧ Q H') X.xe s
section
variable {X : Cx} {pos : Pos}
noncomputable def gI (i : Nat) : TG := fun v σ H Q => Q (σ.set i (some v)) H
theorem uk {i : Nat} {x : Str} (hN : X.N.Nodup) (hi : X.N[i]? = some x) (hx : Loc X.env.scope x) (hf : X.fn x = true ∨ X.env.scope.names.lookup x = some .local := by first | exact .inl rfl | exact .inr rfl | assumption) : PG X (.Name x pos) (gI i) := by
  intro pins s σ H v u Q I r h
  exact wpAny_assign_Name (px I hN hi hx r (fun s' I' => ⟨_, H, I', h⟩) hf)
noncomputable def cV (to ti : TE) (t : oF) : TG := fun v σ H Q => to σ H fun o H1 => ti σ H1 fun i H2 => t o i v H2 fun H3 => Q σ H3
theorem xm {o i : Expr} {to ti : TE} {t : oF} (ho : PE X o to) (hi : PE X i ti) (hs : sY X t)
    (ha : ∀ v, assign (.Subscript o i pos) X.env v = (do
      let ov ← holding [v] (eval o X.env)
      let iv ← holding [v, ov] (eval i X.env)
      standAt pos
      holding [v, ov, iv] (setItem ov iv v)
      release [v, ov, iv] []) := by intro _; rfl) : PG X (.Subscript o i pos) (cV to ti t) := by
  intro pins s σ H v u Q I r h
  rw [ha]
  refine wpAny_bind (wpAny_holding (thn (ho pins s σ H _ I h) fun ov s1 ⟨x, H1, I1, r1, q1⟩ => ?_))
  refine wpAny_bind (wpAny_holding (thn (hi pins s1 σ H1 _ I1 q1) fun iv s2 ⟨y, H2, I2, r2, q2⟩ => ?_))
  refine wpAny_bind (wpAny_standAt (wpAny_bind (wpAny_holding (thn (hs pins s2 σ H2 x y v ov iv u _ I2 r1 r2 r q2) fun _ s3 ⟨H3, I3, q3⟩ => ?_))))
  exact wpAny_release ⟨σ, H3, I3, q3⟩
noncomputable def hW (te : TE) (g : TG) : TS := fun D σ H => te σ H fun x H1 => g x σ H1 D.nx
theorem vW {tg e : Expr} {te : TE} {g : TG} (he : PE X e te) (hg : PG X tg g) (hs : swapsWithSole [tg] e pos.line X.env = pure false := by rfl) (hw : swappedStores [tg] e X.env = pure none := by rfl)
    (h1 : (assignEach [tg] X.env).map (·.2) = [assign tg X.env] := by rfl) : PS X (.Assign [tg] e pos) (hW te g) := by
  intro pins s σ H D I h
  refine wpAny_Assign_stores (thn (he pins s σ H _ I h) fun v s1 ⟨x, H1, I1, r1, q1⟩ => ?_) hs hw
  rw [h1]
  exact thn (hg pins s1 σ H1 x v _ I1 r1 q1) fun _ s2 q => q
theorem m9 {i : Nat} {x : Str} {e : Expr} {te : TE} {pos' : Pos} (hN : X.N.Nodup) (hi : X.N[i]? = some x) (hx : Loc X.env.scope x) (he : PE X e te) (hs : swapsWith e (some (.Name x pos')) pos.line X.env = pure false := by rfl) (hf : X.fn x = true ∨ X.env.scope.names.lookup x = some .local := by first | exact .inl rfl | exact .inr rfl | assumption) :
    PS X (.Assign [.Name x pos'] e pos) (hW te (gI i)) := by
  intro pins s σ H D I h
  refine wpAny_Assign_Name (thn (he pins s σ H _ I h) fun v s1 ⟨y, H1, I1, r1, q1⟩ => ?_) hs
  exact px I1 hN hi hx r1 (fun s2 I2 => ⟨_, H1, I2, q1⟩) hf
end
section
variable {X : Cx} {pos : Pos}
end
structure It where
  go : Nat → Hp → Prop
  yld : Nat → Hp → V → Hp → Prop
  stop : Nat → Hp → Prop
noncomputable def eN (X : Cx) (pins : List (Addr × Obj)) (H : Hp) (b : Addr) : Prop :=
  H b = none ∧ b ≠ X.env.locals ∧ b ∉ X.fs ∧ (b ∈ X.ex ∨ X.s₀.heap.objs.size ≤ b) ∧ (∀ x c, X.env.cells.lookup x = some c → c ≠ b) ∧ ∀ p ∈ X.pn ++ pins, p.1 ≠ b
theorem Inv.fpOk {X : Cx} {pins : List (Addr × Obj)} {σ : St} {H H' : Hp} {s : Shared} {b : Addr} (I : Inv X pins σ H s) (hb : s.heap.objs.size ≤ b) (hn : H' b = none) : eN X pins H' b := by
  refine ⟨hn, Nat.ne_of_gt (Nat.lt_of_lt_of_le I.lt hb), I.nofs hb, .inr (Nat.le_trans I.sz hb), fun x c e z => ?_, fun p hp z => ?_⟩
  · obtain ⟨v, q⟩ := I.cell x c e
    exact absurd (Nat.lt_of_lt_of_le q.lt (by rw [z]; exact hb)) (Nat.lt_irrefl _)
  · exact absurd (Nat.lt_of_lt_of_le (Heap.lt_size (I.pin p hp).1) (by rw [z]; exact hb)) (Nat.lt_irrefl _)
structure Turn (P : Program) (w : World) (K : PySem.W.Frag) (tg : Expr) (J : It) (fp : List Addr) (it : Addr) (tn : Nat → Heap → Prop) : Prop where
  mem : it ∈ fp
  obj : ∀ i h, tn i h → ∀ b ∈ fp, ∃ o, h.get? b = some o ∧ ∀ v, o.data ≠ .cell v
  keep : ∀ i h h', tn i h → (∀ b ∈ fp, ∀ o, h.get? b = some o → h'.get? b = some o) → tn i h'
  item : ∀ (X : Cx), X.prog = P → X.w = w → X.K = K → X.calm = true → ∀ (i : Nat) (pins : List (Addr × Obj)) (s : Shared) (σ : St) (H : Hp) (E : Value → Shared → Prop), Inv X pins σ H s → (∀ b ∈ fp, eN X pins H b) → tn i s.heap → J.go i H →
    wpAny (model P w) X.A (pyNext (.ref it)) (fun r s1 => ∃ u, r = some u ∧
      wpAny (model P w) X.A (letOwnedTupleGo tg (.ref it) u) (fun _ s2 => ∃ x H', Inv X pins σ H' s2 ∧ RelV x u ∧ J.yld i H x H' ∧ tn (i + 1) s2.heap ∧ ∀ b ∈ fp, H' b = none) E s1) E s
  done : ∀ (X : Cx), X.prog = P → X.w = w → X.K = K → X.calm = true → ∀ (i : Nat) (pins : List (Addr × Obj)) (s : Shared) (σ : St) (H : Hp) (E : Value → Shared → Prop), Inv X pins σ H s → (∀ b ∈ fp, eN X pins H b) → tn i s.heap → J.stop i H →
    wpAny (model P w) X.A (pyNext (.ref it)) (fun r s1 => r = none ∧ Inv X pins σ H s1) E s
  self : ∀ (A : Around) (i : Nat) (s : Shared) (Q : Value → Shared → Prop) (E : Value → Shared → Prop), tn i s.heap → Q (.ref it) s → wpAny (model P w) A (pyIter (.ref it)) Q E s
noncomputable abbrev TI := St → Hp → (It → Hp → Prop) → Prop
noncomputable def PIE (X : Cx) (pins : List (Addr × Obj)) (σ : St) (tg : Expr) (R : It → Hp → Prop) (itv : Value) (s2 : Shared) : Prop :=
  ∃ (it : Addr) (fp : List Addr) (tn : Nat → Heap → Prop) (J : It) (H' : Hp), itv = .ref it ∧ Inv X pins σ H' s2 ∧ Turn X.prog X.w X.K tg J fp it tn ∧ tn 0 s2.heap ∧ (∀ b ∈ fp, eN X pins H' b) ∧ R J H'
noncomputable def PI (X : Cx) (tg iter : Expr) (wi : TI) : Prop :=
  ∀ (pins : List (Addr × Obj)) (s : Shared) (σ : St) (H : Hp) (R : It → Hp → Prop), Inv X pins σ H s → wi σ H R →
    wpAny (model X.prog X.w) X.A (eval iter X.env) (fun v s1 => wpAny (model X.prog X.w) X.A (pyIter v) (PIE X pins σ tg R) X.xe s1) X.xe s
theorem nO {M : Model} {A : Around} {E : Value → Shared → Prop} {s : Shared} {tg : Expr} {it : Addr} {u : Value} {o : Obj} {n : String} {vs : Array Value} {Q : Unit → Shared → Prop} (ho : s.heap.get? it = some o) (hc : o.cls = .type n) (hd : o.data = .fields vs)
    (hn : ["enumerate", "zip", "dict_itemiterator", "dict_reverseitemiterator", "odict_iterator", "itertools.zip_longest", "itertools.pairwise"].contains n = false) (hQ : Q () s) : wpAny M A (letOwnedTupleGo tg (.ref it) u) Q E s := by
  unfold letOwnedTupleGo
  cases tg <;> first
    | exact wpAny_pure hQ
    | (cases u <;> first
        | exact wpAny_pure hQ
        | (refine wpAny_bind (wpAny_load ho ?_)
           rw [hc, hd]
           show wpAny M A (if (["enumerate", "zip", "dict_itemiterator", "dict_reverseitemiterator", "odict_iterator", "itertools.zip_longest", "itertools.pairwise"].contains n && vs[0]? == some (rawInt _)) = true then _ else _) Q E s
           rw [if_neg (by intro h; rw [hn, Bool.false_and] at h; cases h)]
           exact wpAny_pure hQ))
noncomputable def Itl (K : PySem.W.Frag) (a : Addr) : It :=
  ⟨fun i H => ∃ xs x, SqL K H a xs ∧ xs[i]? = some x, fun i H x H' => H' = H ∧ ∀ xs, SqL K H a xs → xs[i]? = some x, fun i H => ∃ xs, SqL K H a xs ∧ xs.length ≤ i⟩
noncomputable def Itt (K : PySem.W.Frag) (a : Addr) : It :=
  ⟨fun i H => ∃ xs x, SqT K H a xs ∧ xs[i]? = some x, fun i H x H' => H' = H ∧ ∀ xs, SqT K H a xs → xs[i]? = some x, fun i H => ∃ xs, SqT K H a xs ∧ xs.length ≤ i⟩
noncomputable def Itr (lo : Int) (n : Nat) : It := ⟨fun i _ => i < n, fun i H x H' => H' = H ∧ x = .int (lo + i), fun i _ => n ≤ i⟩
theorem yD {P : Program} {w : World} {K : PySem.W.Frag} {tg : Expr} (a it : Addr) : Turn P w K tg (Itl K a) [it] it (fun i h => h.IsListIter it a i) where
  mem := by simp
  obj := fun i h st b hb => by
    have e : b = it := by simpa using hb
    subst e
    obtain ⟨o, e, c, d⟩ := st
    exact ⟨o, e, fun v z => by rw [d] at z; cases z⟩
  keep := fun i h h' st k => st.at fun o e => k it (by simp) o e
  item := by
    intro X hP hw hK hc i pins s σ H E I hf st hg
    subst hP hw hK
    obtain ⟨xs, x, hq, hx⟩ := hg
    obtain ⟨its, rv, p, hz⟩ := I.list hq
    obtain ⟨u, hu, ru⟩ := rv.get hx
    obtain ⟨f0, f1, f2, f3, f4, f5⟩ := hf it (by simp)
    refine wpAny_pyNext_list_item st p.isList (x := u) (by simpa using hu) fun h' st' sb => ?_
    have I1 : Inv X pins σ H { s with heap := h' } := I.turned (t' := s.toks) (fun b o hb e => (sb.2 b hb).trans e) f0 f1 f3 f4 f5
    obtain ⟨o, e, c, d⟩ := id st'
    exact ⟨u, rfl, nO (s := { s with heap := h' }) e c d (by decide) ⟨x, H, I1, ru, ⟨rfl, fun ys hy => by rw [I.list_inj hy hq]; exact hx⟩, st', fun b hb => (hf b hb).1⟩⟩
  done := by
    intro X hP hw hK hc i pins s σ H E I hf st hg
    subst hP hw hK
    obtain ⟨xs, hq, hx⟩ := hg
    obtain ⟨its, rv, p, hz⟩ := I.list hq
    obtain ⟨f0, f1, f2, f3, f4, f5⟩ := hf it (by simp)
    have hl := rv.length
    exact wpAny_pyNext_list_end (I.ok.hd hc) st p.isList (by simp; omega) fun h' eb => ⟨rfl, I.turned (t' := s.toks) (fun b o hb e => eb b o hb e) f0 f1 f3 f4 f5⟩
  self := fun _ _ _ _ _ st h => wpAny_pyIter_listiter st h
theorem yH {P : Program} {w : World} {K : PySem.W.Frag} {tg : Expr} (a it : Addr) : Turn P w K tg (Itt K a) [it] it (fun i h => h.IsTupleIter it a i) where
  mem := by simp
  obj := fun i h st b hb => by
    have e : b = it := by simpa using hb
    subst e
    obtain ⟨o, e, c, d⟩ := st
    exact ⟨o, e, fun v z => by rw [d] at z; cases z⟩
  keep := fun i h h' st k => st.at fun o e => k it (by simp) o e
  item := by
    intro X hP hw hK hc i pins s σ H E I hf st hg
    subst hP hw hK
    obtain ⟨xs, x, hq, hx⟩ := hg
    obtain ⟨its, rv, p, hz⟩ := I.tuple hq
    obtain ⟨u, hu, ru⟩ := rv.get hx
    obtain ⟨f0, f1, f2, f3, f4, f5⟩ := hf it (by simp)
    refine wpAny_pyNext_tuple_item st (show s.heap.IsTuple a its.toArray from p) (x := u) (by simpa using hu) fun h' st' sb => ?_
    have I1 : Inv X pins σ H { s with heap := h' } := I.turned (t' := s.toks) (fun b o hb e => (sb.2 b hb).trans e) f0 f1 f3 f4 f5
    obtain ⟨o, e, c, d⟩ := id st'
    exact ⟨u, rfl, nO (s := { s with heap := h' }) e c d (by decide) ⟨x, H, I1, ru, ⟨rfl, fun ys hy => by rw [I.tuple_inj hy hq]; exact hx⟩, st', fun b hb => (hf b hb).1⟩⟩
  done := by
    intro X hP hw hK hc i pins s σ H E I hf st hg
    subst hP hw hK
    obtain ⟨xs, hq, hx⟩ := hg
    obtain ⟨its, rv, p, hz⟩ := I.tuple hq
    obtain ⟨f0, f1, f2, f3, f4, f5⟩ := hf it (by simp)
    have hl := rv.length
    exact wpAny_pyNext_tuple_end (I.ok.hd hc) st (show s.heap.IsTuple a its.toArray from p) (by simp; omega) fun h' eb => ⟨rfl, I.turned (t' := s.toks) (fun b o hb e => eb b o hb e) f0 f1 f3 f4 f5⟩
  self := fun _ _ _ _ _ st h => wpAny_pyIter_tupleiter st h
theorem w9 {P : Program} {w : World} {K : PySem.W.Frag} {tg : Expr} (it : Addr) (lo : Int) (n : Nat) : Turn P w K tg (Itr lo n) [it] it (fun i h => IsRangeIter h it (lo + (i : Nat) * 1) ((n : Int) - (i : Nat)) 1) where
  mem := by simp
  obj := fun i h st b hb => by
    have e : b = it := by simpa using hb
    subst e
    exact ⟨_, st, fun v z => by
      have z' : Data.fields _ = Data.cell v := z
      cases z'⟩
  keep := fun i h h' st k => k it (by simp) _ st
  item := by
    intro X hP hw hK hc i pins s σ H E I hf st hg
    subst hP hw hK
    obtain ⟨f0, f1, f2, f3, f4, f5⟩ := hf it (by simp)
    have W := Walks.range (prog := X.prog) (w := X.w) (I.ok.hd hc) it lo 1 n
    refine W.item i s _ _ hg st fun v h' tk hv st' kk => ?_
    obtain ⟨t, rfl⟩ := hv
    have I1 : Inv X pins σ H { s with heap := h', toks := tk } := I.turned (fun b o hb e => kk b o (by simpa using hb) e) f0 f1 f3 f4 f5
    refine ⟨_, rfl, nO (s := { s with heap := h', toks := tk }) (n := "range_iterator") st' rfl rfl (by decide) ⟨.int (lo + i), H, I1, ⟨t, ?_⟩, ⟨rfl, rfl⟩, st', fun b hb => (hf b hb).1⟩⟩
    rw [Int.mul_one]
  done := by
    intro X hP hw hK hc i pins s σ H E I hf st hg
    subst hP hw hK
    obtain ⟨f0, f1, f2, f3, f4, f5⟩ := hf it (by simp)
    exact wpAny_pyNext_range_end (I.ok.hd hc) st (by have : n ≤ i := hg; omega) fun h' eb => ⟨rfl, I.turned (t' := s.toks) (fun b o hb e => eb b o hb e) f0 f1 f3 f4 f5⟩
  self := fun _ _ _ _ _ st h => wpAny_pyIter_rangeiter st h
end L2
namespace L2
open PySem PySem.Spec PyProof.Rows
section
variable {X : Cx} {tg : Expr}
noncomputable def tU (K : PySem.W.Frag) (tl : TE) : TI := fun σ H R => tl σ H fun x H1 => ∃ a, x = .ref a ∧ (∃ xs, SqL K H1 a xs) ∧ R (Itl K a) H1
noncomputable def p9 (K : PySem.W.Frag) (tl : TE) : TI := fun σ H R => tl σ H fun x H1 => ∃ a, x = .ref a ∧ (∃ xs, SqT K H1 a xs) ∧ R (Itt K a) H1
theorem sd {l : Expr} {tl : TE} (hl : PE X l tl) : PI X tg l (tU X.K tl) := by
  intro pins s σ H R I h
  refine thn (hl pins s σ H _ I h) fun v s1 ⟨x, H1, I1, r1, q1⟩ => ?_
  obtain ⟨a, e, ⟨xs, hq⟩, q⟩ := q1
  subst e
  cases r1
  obtain ⟨its, rv, p, hz⟩ := I1.list hq
  refine wpAny_pyIter_list p.isList ?_
  refine ⟨s1.heap.objs.size, [s1.heap.objs.size], _, _, H1, rfl, I1.kept (t' := s1.toks) fun b o e => Heap.get?_push_of_some _ e, yD a _, ⟨_, Heap.get?_push_size _ rfl, rfl, rfl⟩, fun b hb => ?_, q⟩
  have e : b = s1.heap.objs.size := by simpa using hb
  subst e
  exact I1.fpOk (Nat.le_refl _) (I1.hok.fresh (Nat.le_refl _))
theorem y9 {l : Expr} {tl : TE} (hl : PE X l tl) : PI X tg l (p9 X.K tl) := by
  intro pins s σ H R I h
  refine thn (hl pins s σ H _ I h) fun v s1 ⟨x, H1, I1, r1, q1⟩ => ?_
  obtain ⟨a, e, ⟨xs, hq⟩, q⟩ := q1
  subst e
  cases r1
  obtain ⟨its, rv, p, hz⟩ := I1.tuple hq
  refine wpAny_pyIter_tuple (show s1.heap.IsTuple a its.toArray from p) ?_
  refine ⟨s1.heap.objs.size, [s1.heap.objs.size], _, _, H1, rfl, I1.kept (t' := s1.toks) fun b o e => Heap.get?_push_of_some _ e, yH a _, ⟨_, Heap.get?_push_size _ rfl, rfl, rfl⟩, fun b hb => ?_, q⟩
  have e : b = s1.heap.objs.size := by simpa using hb
  subst e
  exact I1.fpOk (Nat.le_refl _) (I1.hok.fresh (Nat.le_refl _))
theorem zG {pins : List (Addr × Obj)} {σ : St} {H : Hp} {s : Shared} {R : It → Hp → Prop} {E : Value → Shared → Prop} {lo hi : Int} {t u v : Tok} {tk : Nat} (I : Inv X pins σ H s) (h1 : -(2 ^ 62) ≤ lo) (h2 : lo < 2 ^ 62) (h3 : -(2 ^ 62) ≤ hi) (h4 : hi < 2 ^ 62)
    (q : R (Itr lo (hi - lo).toNat) H) : wpAny (model X.prog X.w) X.A (pyIter (.ref s.heap.objs.size)) (PIE X pins σ tg R) E { s with heap := s.heap.push { cls := .type "range", data := .fields #[.int lo t, .int hi u, .int 1 v] }, toks := tk } := by
  refine wpAny_pyIter_range (IsRange.new ..) (small_one h1 h2 h3 h4) ?_
  have I1 : Inv X pins σ H { s with heap := s.heap.push { cls := .type "range", data := .fields #[.int lo t, .int hi u, .int 1 v] }, toks := tk } := I.kept fun b o e => Heap.get?_push_of_some _ e
  refine ⟨(s.heap.push { cls := .type "range", data := .fields #[.int lo t, .int hi u, .int 1 v] }).objs.size, [(s.heap.push { cls := .type "range", data := .fields #[.int lo t, .int hi u, .int 1 v] }).objs.size], _, _, H, rfl,
    I1.kept (t' := tk) fun b o e => Heap.get?_push_of_some _ e, w9 _ lo (hi - lo).toNat, ?_, fun b hb => ?_, q⟩
  · have e1 : lo + ((0 : Nat) : Int) * 1 = lo := by simp
    have e2 : (((hi - lo).toNat : Nat) : Int) - ((0 : Nat) : Int) = Builtin.Range.rangeSize lo hi 1 := by rw [rangeSize_one]; split <;> omega
    show IsRangeIter _ _ (lo + ((0 : Nat) : Int) * 1) ((((hi - lo).toNat : Nat) : Int) - ((0 : Nat) : Int)) 1
    rw [e1, e2]
    exact Heap.get?_push_size _ rfl
  · have e : b = (s.heap.push { cls := .type "range", data := .fields #[.int lo t, .int hi u, .int 1 v] }).objs.size := by simpa using hb
    subst e
    exact I1.fpOk (Nat.le_refl _) (I1.hok.fresh (Nat.le_refl _))
noncomputable def qX (ta : TA) : TI := fun σ H R => ta σ H fun vs H1 => ∃ j : Int, vs = [.int j] ∧ -(2 ^ 62) ≤ j ∧ j < 2 ^ 62 ∧ R (Itr 0 j.toNat) H1
theorem AZ {a : Expr} {ta : TA} {p pos : Pos} (hg : Gl X "range") (hm : X.mg "range" = none) (ha : PA X [a] ta) (hs : starEach [a] X.env = [(false, eval a X.env)] := by rfl) : PI X tg (.Call (.Name "range" p) [a] [] pos) (qX ta) := by
  intro pins s σ H R I h
  refine Call_ (mM I hg hm boot_range (PyProof.Rows.callWith_type1 (thn (ha pos pins s σ H _ I h) fun us s1 ⟨vs, H1, I1, r1, q1⟩ => ?_) hs rfl))
  obtain ⟨j, e, q1, q2, q⟩ := q1
  subst e
  cases r1 with
  | cons r rr =>
    cases rr
    obtain ⟨t, rfl⟩ := r
    exact call_range_1 (zG I1 (by omega) (by omega) q1 q2 (by simpa using q))
noncomputable def pW (wi : TI) (g : TG) (tb : TS) : TS := fun D σ H => wi σ H fun J H1 => ∃ W : Nat → Nat → St → Hp → Prop, (∃ m, W 0 m σ H1) ∧ ∀ i m σ H, W i m σ H →
  (J.stop i H ∧ D.nx σ H) ∨ (J.go i H ∧ ∃ N : St → Hp → Prop, (∀ σ' H', N σ' H' → ∃ m', m' < m ∧ W (i + 1) m' σ' H') ∧ ∀ x H', J.yld i H x H' → g x σ H' fun σ2 H2 => tb { D with nx := N, ct := N, bk := D.nx } σ2 H2)
noncomputable def kZ (fp : List Addr) (h : Heap) : List (Addr × Obj) := fp.filterMap fun b => (h.get? b).map fun o => (b, o)
theorem mL {fp : List Addr} {h : Heap} {b : Addr} {o : Obj} (hb : b ∈ fp) (e : h.get? b = some o) : (b, o) ∈ kZ fp h := List.mem_filterMap.mpr ⟨b, hb, by rw [e]; rfl⟩
theorem Bl {fp : List Addr} {h : Heap} {p : Addr × Obj} (hp : p ∈ kZ fp h) : p.1 ∈ fp ∧ h.get? p.1 = some p.2 := by
  obtain ⟨b, hb, e⟩ := List.mem_filterMap.mp hp
  cases q : h.get? b with
  | none => rw [q] at e; cases e
  | some o =>
    rw [q] at e
    have e' : (b, o) = p := Option.some.inj e
    subst e'
    exact ⟨hb, q⟩
theorem Inv.pinned {pins : List (Addr × Obj)} {σ : St} {H : Hp} {s : Shared} {fp : List Addr} (I : Inv X pins σ H s) (hf : ∀ b ∈ fp, eN X pins H b) (ho : ∀ b ∈ fp, ∃ o, s.heap.get? b = some o ∧ ∀ v, o.data ≠ .cell v) : Inv X (pins ++ kZ fp s.heap) σ H s :=
  I.pins_of fun p hp => (List.mem_append.mp hp).elim (fun z => I.pin p (List.mem_append_right _ z)) fun z => by
    obtain ⟨hb, e⟩ := Bl z
    obtain ⟨f0, f1, f2, _⟩ := hf p.1 hb
    obtain ⟨o, e', d⟩ := ho p.1 hb
    rw [e] at e'; cases e'
    exact ⟨e, f0, f1, f2, d⟩
theorem Inv.unpinned {pins pl : List (Addr × Obj)} {σ : St} {H : Hp} {s : Shared} (I : Inv X (pins ++ pl) σ H s) : Inv X pins σ H s := I.pins_of fun p hp => I.pin p (List.mem_append_right _ (List.mem_append_left _ hp))
theorem sM {iter : Expr} {body : List Stmt} {wi : TI} {g : TG} {tb : TS} {pos : Pos} (hp : PassesOwn (model X.prog X.w) X.A X.env X.xe) (hc : X.calm = true) (hi : PI X tg iter wi) (hg : PG X tg g) (hb : PSs X body tb)
    (hs : ∀ x, foldedSetIterable iter X.env x = pure x := by intro _; rfl) : PS X (.For tg iter body [] pos) (pW wi g tb) := by
  intro pins s σ H D I h
  refine wpAny_For (thn (hi pins s σ H _ I h) fun v s1 h1 => thn h1 fun itv s2 h2 => ?_) hs
  obtain ⟨it, fp, tn, J, H2, e, I2, T, st2, f2, W, ⟨m0, w0⟩, turn⟩ := h2
  subst e
  have stat : ∀ {H' : Hp}, (∀ b ∈ fp, H' b = none) → ∀ b ∈ fp, eN X pins H' b := fun hn b hb => ⟨hn b hb, (f2 b hb).2⟩
  refine codeAny_forLoop_any (fun n s' => ∃ i σ' H', Inv X pins σ' H' s' ∧ tn i s'.heap ∧ (∀ b ∈ fp, H' b = none) ∧ W i n σ' H') ?_ m0 ⟨0, σ, H2, I2, st2, fun b hb => (f2 b hb).1, w0⟩
  rintro n s3 ⟨i, σ3, H3, I3, st3, fr3, w3⟩
  rcases turn i n σ3 H3 w3 with ⟨stop, qn⟩ | ⟨go, N, hN, step⟩
  · refine wpAny_passesOwn hp (thn (T.done X rfl rfl rfl hc i pins s3 σ3 H3 X.xe I3 (stat fr3) st3 stop) fun r s4 ⟨hr, I4⟩ => ?_)
    subst hr
    exact wpAny_execs_nil ⟨σ3, H3, I4, qn⟩
  · refine wpAny_passesOwn hp (thn (T.item X rfl rfl rfl hc i pins s3 σ3 H3 X.xe I3 (stat fr3) st3 go) fun r s4 ⟨u, hr, h4⟩ => ?_)
    subst hr
    refine wpAny_passesOwn hp (thn h4 fun _ s5 ⟨x, H5, I5, r5, y5, st5, fr5⟩ => ?_)
    have I5' := I5.pinned (stat fr5) (T.obj _ _ st5)
    refine wpAny_passesOwn hp (thn (hg _ s5 σ3 H5 x u _ I5' r5 (step x H5 y5)) fun _ s6 ⟨σ6, H6, I6, q6⟩ => ?_)
    refine wpAny_passesOwn hp (thn (hb _ s6 σ6 H6 _ I6 q6) fun f s7 q7 => ?_)
    have again : ∀ {σ7 : St} {H7 : Hp}, Inv X (pins ++ kZ fp s5.heap) σ7 H7 s7 → N σ7 H7 → ∃ m, m < n ∧ ∃ i σ' H', Inv X pins σ' H' s7 ∧ tn i s7.heap ∧ (∀ b ∈ fp, H' b = none) ∧ W i m σ' H' := fun {σ7 H7} I7 n7 => by
      obtain ⟨m', hm, w7⟩ := hN σ7 H7 n7
      refine ⟨m', hm, i + 1, σ7, H7, I7.unpinned, T.keep _ _ _ st5 fun b hb o e => (I7.pin (b, o) (List.mem_append_right _ (List.mem_append_right _ (mL hb e)))).1, fun b hb => ?_, w7⟩
      obtain ⟨o, e, d⟩ := T.obj _ _ st5 b hb
      exact (I7.pin (b, o) (List.mem_append_right _ (List.mem_append_right _ (mL hb e)))).2.1
    cases f with
    | next => obtain ⟨σ7, H7, I7, n7⟩ := q7; exact again I7 n7
    | cont => obtain ⟨σ7, H7, I7, n7⟩ := q7; exact again I7 n7
    | brk => obtain ⟨σ7, H7, I7, q7⟩ := q7; exact ⟨σ7, H7, I7.unpinned, q7⟩
    | ret v => obtain ⟨x7, σ7, H7, I7, r7, q7⟩ := q7; exact ⟨x7, σ7, H7, I7.unpinned, r7, q7⟩
end
end L2
namespace L2
open PySem PySem.Spec PyProof.Rows
noncomputable abbrev R2 := V → V → Hp → VK → Prop
noncomputable def OpR (X : Cx) (f : Value → Value → Sem Value) (r : R2) : Prop :=
  ∀ (pins : List (Addr × Obj)) (s : Shared) (σ : St) (H : Hp) (x y : V) (v u : Value) (Q : VK), Inv X pins σ H s → RelV x v → RelV y u → r x y H Q →
    wpAny (model X.prog X.w) X.A (f v u) (EP X pins σ Q) X.xe s
noncomputable def el (X : Cx) (f : Value) (r : List V → Hp → VK → Prop) : Prop :=
  ∀ (pins : List (Addr × Obj)) (s : Shared) (σ : St) (H : Hp) (xs : List V) (us : List Value) (Q : VK), Inv X pins σ H s → Vals xs us → r xs H Q →
    wpAny (model X.prog X.w) X.A (call f us) (EP X pins σ Q) X.xe s
noncomputable def AW (X : Cx) (r : V → Hp → (Bool → Hp → Prop) → Prop) : Prop :=
  ∀ (pins : List (Addr × Obj)) (s : Shared) (σ : St) (H : Hp) (x : V) (v : Value) (Q : Bool → Hp → Prop), Inv X pins σ H s → RelV x v → r x H Q →
    wpAny (model X.prog X.w) X.A (truthy v) (TP X pins σ Q) X.xe s
noncomputable def tOp (r : R2) (ta tb : TE) : TE := fun σ H Q => ta σ H fun x H1 => tb σ H1 fun y H2 => r x y H2 Q
noncomputable def rI (C : Int → Int → Prop) (g : Int → Int → V) : R2 := fun x y H Q => ∃ i j, x = .int i ∧ y = .int j ∧ C i j ∧ Q (g i j) H
noncomputable def rI0 (g : Int → Int → V) : R2 := fun x y H Q => ∃ i j, x = .int i ∧ y = .int j ∧ Q (g i j) H
section
variable {X : Cx} {a b c : Expr} {ta tb tc : TE} {pos : Pos}
theorem rq (ha : PE X a ta) (hb : PE X b tb) {pins : List (Addr × Obj)} {s : Shared} {σ : St} {H : Hp} {R : V → V → Hp → Prop} (I : Inv X pins σ H s)
    (h : ta σ H fun x H1 => tb σ H1 fun y H2 => R x y H2) {Q : Value → Shared → Prop} {f : Value → Value → Sem Value}
    (hf : ∀ v u s2 x y H2, Inv X pins σ H2 s2 → RelV x v → RelV y u → R x y H2 → wpAny (model X.prog X.w) X.A (f v u) Q X.xe s2) :
    wpAny (model X.prog X.w) X.A (eval a X.env) (fun v s₁ => wpAny (model X.prog X.w) X.A (eval b X.env) (fun u s₂ => wpAny (model X.prog X.w) X.A (f v u) Q X.xe s₂) X.xe s₁) X.xe s := by
  refine thn (ha pins s σ H _ I h) fun v s1 ⟨x, H1, I1, r1, q1⟩ => ?_
  refine thn (hb pins s1 σ H1 _ I1 q1) fun u s2 ⟨y, H2, I2, r2, q2⟩ => ?_
  exact hf v u s2 x y H2 I2 r1 r2 q2
theorem vj {op : Operator} {r : R2} (ho : OpR X (binaryOp op) r) (ha : PE X a ta) (hb : PE X b tb) : PE X (.BinOp a op b pos) (tOp r ta tb) := by
  intro pins s σ H Q I h
  exact wpAny_BinOp (rq ha hb I h fun v u s2 x y H2 I2 rx ry q => ho pins s2 σ H2 x y v u Q I2 rx ry q)
theorem opI {f : Value → Value → Sem Value} {C : Int → Int → Prop} {g : Int → Int → Int}
    (rule : ∀ (i j : Int) (t u : Tok) (s : Shared) (Q : Value → Shared → Prop) (E : Value → Shared → Prop), C i j → Q (.int (g i j) s.toks) { s with toks := s.toks + 1 } → wpAny (model X.prog X.w) X.A (f (.int i t) (.int j u)) Q E s) :
    OpR X f (rI C fun i j => .int (g i j)) := by
  intro pins s σ H x y v u Q I rx ry h
  obtain ⟨i, j, rfl, rfl, hc, q⟩ := h
  obtain ⟨t, rfl⟩ := rx
  obtain ⟨t', rfl⟩ := ry
  exact rule i j t t' s _ _ hc ⟨.int (g i j), H, I.tok _, ⟨_, rfl⟩, q⟩
theorem pT {f : Value → Value → Sem Value} {g : Int → Int → Int}
    (rule : ∀ (i j : Int) (t u : Tok) (s : Shared) (Q : Value → Shared → Prop) (E : Value → Shared → Prop), Q (.int (g i j) s.toks) { s with toks := s.toks + 1 } → wpAny (model X.prog X.w) X.A (f (.int i t) (.int j u)) Q E s) :
    OpR X f (rI0 fun i j => .int (g i j)) := by
  intro pins s σ H x y v u Q I rx ry h
  obtain ⟨i, j, rfl, rfl, q⟩ := h
  obtain ⟨t, rfl⟩ := rx
  obtain ⟨t', rfl⟩ := ry
  exact rule i j t t' s _ _ ⟨.int (g i j), H, I.tok _, ⟨_, rfl⟩, q⟩
theorem nI {f : Value → Value → Sem Value} {g : Int → Int → Bool}
    (rule : ∀ (i j : Int) (t u : Tok) (s : Shared) (Q : Value → Shared → Prop) (E : Value → Shared → Prop), Q (.bool (g i j)) s → wpAny (model X.prog X.w) X.A (f (.int i t) (.int j u)) Q E s) :
    OpR X f (rI0 fun i j => .bl (g i j)) := by
  intro pins s σ H x y v u Q I rx ry h
  obtain ⟨i, j, rfl, rfl, q⟩ := h
  obtain ⟨t, rfl⟩ := rx
  obtain ⟨t', rfl⟩ := ry
  exact rule i j t t' s _ _ ⟨.bl (g i j), H, I, rfl, q⟩
noncomputable def A7 (i j : Int) : Prop := 0 < j ∧ j < 1073741824
noncomputable def kL (i j : Int) : Prop := (-(2 ^ 64) < i ∧ i < 2 ^ 64) ∨ (-(2 ^ 64) < j ∧ j < 2 ^ 64)
theorem kL.ok {i j : Int} (h : kL i j) : IntMulOk i j := by
  rcases h with ⟨h1, h2⟩ | ⟨h1, h2⟩
  · exact .of_left (intBits_le_64 h1 h2)
  · exact .of_right (intBits_le_64 h1 h2)
theorem vT : OpR X (binaryOp .Add) (rI0 fun i j => .int (i + j)) := pT fun _ _ _ _ _ _ _ q => add_int q
theorem zd : OpR X (binaryOp .Sub) (rI0 fun i j => .int (i - j)) := pT fun _ _ _ _ _ _ _ q => sub_int q
theorem uQ : OpR X (binaryOp .Mult) (rI kL fun i j => .int (i * j)) := opI fun _ _ _ _ _ _ _ hc q => mul_int q hc.ok
theorem xa : OpR X (binaryOp .FloorDiv) (rI A7 fun i j => .int (i / j)) := opI fun i j _ _ _ _ _ hc q => by
  have h1 : (0 : Int) < j := hc.1
  have h2 : j < 1073741824 := hc.2
  exact floordiv_int (by omega) (by rw [Int.fdiv_eq_ediv_of_nonneg i (by omega)]; exact q) (.inl (PyProof.noPylong_small (by omega)))
theorem yo : OpR X (binaryOp .Mod) (rI (fun _ j => 0 < j) fun i j => .int (i % j)) := opI fun i j _ _ _ _ _ hc q => by
  have h1 : (0 : Int) < j := hc
  exact mod_int' (by omega) (by rw [Int.fmod_eq_emod_of_nonneg i (by omega)]; exact q)
end
section
variable {X : Cx} {a b c : Expr} {ta tb tc : TE} {pos : Pos}
theorem nR {pins : List (Addr × Obj)} {σ : St} {H : Hp} {s : Shared} {Q : VK} {k k' : Bool} (I : Inv X pins σ H s) (q : Q (.bl k) H) (e : k = k') : EP X pins σ Q (.bool k') s := by
  subst e
  exact ⟨.bl k, H, I, rfl, q⟩
theorem wI : OpR X (compareOp .Lt) (rI0 fun i j => .bl (decide (i < j))) := nI fun _ _ _ _ _ _ _ q => lt_int q
theorem A5 : OpR X (compareOp .Gt) (rI0 fun i j => .bl (decide (j < i))) := nI fun _ _ _ _ _ _ _ q => gt_int q
theorem yA : OpR X (compareOp .GtE) (rI0 fun i j => .bl (decide (j ≤ i))) := nI fun _ _ _ _ _ _ _ q => ge_int q
theorem uH : OpR X (compareOp .Is) (fun x y H Q => y = .non ∧ Q (.bl (decide (x = .non))) H) := by
  intro pins s σ H x y v u Q I rx ry h
  obtain ⟨rfl, q⟩ := h
  cases ry
  refine is_none_gen (nR I q ?_)
  cases x <;> first
    | (cases rx; rfl)
    | (obtain ⟨t, rfl⟩ := rx; rfl)
theorem wx : OpR X (compareOp .IsNot) (fun x y H Q => y = .non ∧ Q (.bl (!decide (x = .non))) H) := by
  intro pins s σ H x y v u Q I rx ry h
  obtain ⟨rfl, q⟩ := h
  cases ry
  refine isnot_none_gen (nR I q ?_)
  cases x <;> first
    | (cases rx; rfl)
    | (obtain ⟨t, rfl⟩ := rx; rfl)
theorem OpR.or {f : Value → Value → Sem Value} {r r' : R2} (h : OpR X f r) (h' : OpR X f r') : OpR X f (fun x y H Q => r x y H Q ∨ r' x y H Q) := by
  intro pins s σ H x y v u Q I rx ry q
  rcases q with q | q
  · exact h pins s σ H x y v u Q I rx ry q
  · exact h' pins s σ H x y v u Q I rx ry q
theorem ba (b : Expr) {op : CmpOp} (h : op ≠ .In := by decide) (h2 : op ≠ .NotIn := by decide) : behindInMarks op b = false := by
  have e1 : (op == CmpOp.In) = false := by cases op <;> first | rfl | exact absurd rfl h
  have e2 : (op == CmpOp.NotIn) = false := by cases op <;> first | rfl | exact absurd rfl h2
  cases b <;> simp [behindInMarks, e1, e2]
noncomputable def sr (t : TE) : TT := fun σ H Q => t σ H fun x H' => ∃ k, x = .bl k ∧ Q k H'
theorem xx {op : CmpOp} {r : R2} (ho : OpR X (compareOp op) r) (ha : PE X a ta) (hb : PE X b tb) (hm : behindInMarks op b = false) : PT X (.Compare a [op] [b] pos) (sr (tOp r ta tb)) := by
  intro pins s σ H Q I h
  refine wpAny_isTrue_Compare1 (thn (ha pins s σ H _ I h) fun v s1 ⟨x, H1, I1, r1, q1⟩ => thn (hb pins s1 σ H1 _ I1 q1) fun u s2 ⟨y, H2, I2, r2, q2⟩ =>
    thn (ho pins s2 σ H2 x y v u _ I2 r1 r2 q2) fun c s3 ⟨z, H3, I3, r3, k, e, q3⟩ => ?_) hm
  subst e
  cases r3
  exact wpAny_truthy_bool ⟨H3, I3, q3⟩
noncomputable def rJ (K : PySem.W.Frag) (x : V) (H : Hp) (k : Bool) : Prop :=
  match x with
  | .non => k = false
  | .bl b => k = b
  | .int i => k = (i != 0)
  | .str y => y.length ≤ sizeLine ∧ k = ((y.length : Int) != 0)
  | .byt y => y.size ≤ sizeLine ∧ k = ((y.size : Int) != 0)
  | .ref p => (∃ xs, SqL K H p xs ∧ k = !xs.isEmpty) ∨ (∃ xs, SqT K H p xs ∧ k = !xs.isEmpty) ∨ ∃ kvs, H p = some (.dK kvs) ∧ k = !kvs.isEmpty
  | _ => False
theorem yJ {κ : Type} {kvs : List (κ × V)} {vs : List (κ × Value)} (r : KV kvs vs) : (!vs.isEmpty) = !kvs.isEmpty := by
  cases r <;> rfl
theorem qf {xs : List V} {its : List Value} (r : Vals xs its) : (!its.toArray.isEmpty) = !xs.isEmpty := by
  cases r <;> simp
theorem je : (sizeLine : Nat) < 2 ^ 63 := by rw [sizeLine_eq]; decide
theorem yK : AW X (fun x H Q => ∃ k, rJ X.K x H k ∧ Q k H) := by
  intro pins s σ H x v Q I rx h
  obtain ⟨k, e, q⟩ := h
  have hl := je
  have hs : sizeLine = 16777216 := sizeLine_eq
  cases x with
  | non =>
    cases rx
    have e' : k = false := e
    subst e'
    exact truthy_none ⟨H, I, q⟩
  | bl b =>
    cases rx
    have e' : k = b := e
    subst e'
    exact wpAny_truthy_bool ⟨H, I, q⟩
  | int i =>
    obtain ⟨t, rfl⟩ := rx
    have e' : k = (i != 0) := e
    subst e'
    exact PySem.P.truthy_int ⟨H, I, q⟩
  | str y =>
    obtain ⟨t, rfl⟩ := rx
    obtain ⟨hy, e'⟩ : y.length ≤ sizeLine ∧ k = ((y.length : Int) != 0) := e
    subst e'
    exact PySem.P.truthy_str (by omega) ⟨H, I.tok _, q⟩
  | byt y =>
    obtain ⟨t, rfl⟩ := rx
    obtain ⟨hy, e'⟩ : y.size ≤ sizeLine ∧ k = ((y.size : Int) != 0) := e
    subst e'
    exact PySem.W.truthy_bytes (by omega) ⟨H, I.tok _, q⟩
  | ref p =>
    cases rx
    have e' : (∃ xs, SqL X.K H p xs ∧ k = !xs.isEmpty) ∨ (∃ xs, SqT X.K H p xs ∧ k = !xs.isEmpty) ∨ ∃ kvs, H p = some (.dK kvs) ∧ k = !kvs.isEmpty := e
    rcases e' with ⟨xs, hx, e'⟩ | ⟨xs, hx, e'⟩ | ⟨kvs, hx, e'⟩
    · subst e'
      obtain ⟨its, r, pl, hz⟩ := I.list hx
      have hlen := r.length
      exact wpAny_truthy_list pl.isList (by simp only [List.size_toArray]; omega) ⟨H, I.tok _, by rw [qf r]; exact q⟩
    · subst e'
      obtain ⟨its, r, pl, hz⟩ := I.tuple hx
      have hlen := r.length
      exact truthy_tuple pl (by simp only [List.size_toArray]; omega) ⟨H, I.tok _, by rw [qf r]; exact q⟩
    · subst e'
      obtain ⟨hz, hS, vs, r, m⟩ : kvs.length ≤ sizeLine ∧ (p == sysModules) = false ∧ ∃ vs, KV kvs vs ∧ s.heap.DictOf (di X.prog X.w) p vs := I.hok p _ hx
      have hlen : kvs.length = vs.length := Paired.length r
      exact wpAny_truthy_dict hS m (by omega) ⟨H, I.tok _, by rw [yJ r]; exact q⟩
  | _ => exact (show False from e).elim
theorem uy (ha : PE X a ta) (he : ∀ whole, isTrue a X.env whole = (do let v ← whole; standAt a.pos; holding [v] (truthy v))) :
    PT X a (fun σ H Q => ta σ H fun x H' => ∃ k, rJ X.K x H' k ∧ Q k H') := by
  intro pins s σ H Q I h
  exact isTrue_plain (thn (ha pins s σ H _ I h) fun v s1 ⟨x, H1, I1, r1, q1⟩ => yK pins s1 σ H1 x v Q I1 r1 q1) (he _)
theorem u0 : OpR X (binaryOp .Add) (fun x y H Q => ∃ i j, x = .str i ∧ y = .str j ∧ i.length + j.length ≤ sizeLine ∧ Q (.str (i ++ j)) H) := by
  intro pins s σ H x y v u Q I rx ry h
  obtain ⟨i, j, rfl, rfl, hz, q⟩ := h
  obtain ⟨t, rfl⟩ := rx
  obtain ⟨t', rfl⟩ := ry
  exact add_str (fun t' tk => ⟨.str (i ++ j), H, I.tok _, ⟨_, rfl⟩, q⟩) hz
theorem vals1 {x : V} {us : List Value} (r : Vals [x] us) : ∃ u, us = [u] ∧ RelV x u := by
  cases r with
  | cons r1 r2 => cases r2; exact ⟨_, rfl, r1⟩
theorem vals2 {x y : V} {us : List Value} (r : Vals [x, y] us) : ∃ u w', us = [u, w'] ∧ RelV x u ∧ RelV y w' := by
  cases r with
  | cons r1 r2 =>
    cases r2 with
    | cons r3 r4 => cases r4; exact ⟨_, _, rfl, r1, r3⟩
theorem Br (hc : X.calm = true) : el X (.builtin "max") (fun xs H Q => ∃ i j, xs = [.int i, .int j] ∧ Q (.int (if j > i then j else i)) H) := by
  intro pins s σ H xs us Q I r h
  obtain ⟨i, j, rfl, q⟩ := h
  obtain ⟨u, w', rfl, ⟨t, rfl⟩, ⟨t', rfl⟩⟩ := vals2 r
  refine max_two_ints (I.ok.hd hc) fun h' tk k => ⟨_, H, I.kept k, ?_, q⟩
  by_cases hj : j > i
  · rw [if_pos hj, if_pos hj]; exact ⟨_, rfl⟩
  · rw [if_neg hj, if_neg hj]; exact ⟨_, rfl⟩
theorem vv (hc : X.calm = true) : el X (.builtin "min") (fun xs H Q => ∃ i j, xs = [.int i, .int j] ∧ Q (.int (if j < i then j else i)) H) := by
  intro pins s σ H xs us Q I r h
  obtain ⟨i, j, rfl, q⟩ := h
  obtain ⟨u, w', rfl, ⟨t, rfl⟩, ⟨t', rfl⟩⟩ := vals2 r
  refine min_two_ints (I.ok.hd hc) fun h' tk k => ⟨_, H, I.kept k, ?_, q⟩
  by_cases hj : j < i
  · rw [if_pos hj, if_pos hj]; exact ⟨_, rfl⟩
  · rw [if_neg hj, if_neg hj]; exact ⟨_, rfl⟩
noncomputable def wO (K : PySem.W.Frag) (x : V) (H : Hp) (n : Nat) : Prop :=
  match x with
  | .str y => y.length ≤ sizeLine ∧ n = y.length
  | .byt y => y.size ≤ sizeLine ∧ n = y.size
  | .ref p => (∃ xs, SqL K H p xs ∧ n = xs.length) ∨ ∃ xs, SqT K H p xs ∧ n = xs.length
  | _ => False
theorem zX : el X (.builtin "len") (fun xs H Q => ∃ x n, xs = [x] ∧ wO X.K x H n ∧ Q (.int n) H) := by
  intro pins s σ H xs us Q I r h
  obtain ⟨x, n, rfl, e, q⟩ := h
  obtain ⟨u, rfl, rx⟩ := vals1 r
  have hl := je
  have hs : sizeLine = 16777216 := sizeLine_eq
  cases x with
  | str y =>
    obtain ⟨t, rfl⟩ := rx
    obtain ⟨hy, e'⟩ : y.length ≤ sizeLine ∧ n = y.length := e
    subst e'
    exact len_str (by omega) ⟨.int _, H, I.tok _, ⟨_, rfl⟩, q⟩
  | byt y =>
    obtain ⟨t, rfl⟩ := rx
    obtain ⟨hy, e'⟩ : y.size ≤ sizeLine ∧ n = y.size := e
    subst e'
    exact PySem.W.len_bytes (by omega) ⟨.int _, H, I.tok _, ⟨_, rfl⟩, q⟩
  | ref p =>
    cases rx
    have e' : (∃ xs, SqL X.K H p xs ∧ n = xs.length) ∨ ∃ xs, SqT X.K H p xs ∧ n = xs.length := e
    rcases e' with ⟨xs, hx, e'⟩ | ⟨xs, hx, e'⟩
    · subst e'
      obtain ⟨its, r', pl, hz⟩ := I.list hx
      have hlen := r'.length
      exact Calls.call_len_list pl.isList (by simp only [List.size_toArray]; omega) ⟨.int xs.length, H, I.tok _, ⟨_, by simp only [List.size_toArray]; rw [hlen]⟩, q⟩
    · subst e'
      obtain ⟨its, r', pl, hz⟩ := I.tuple hx
      have hlen := r'.length
      exact len_tuple pl (by simp only [List.size_toArray]; omega) ⟨.int xs.length, H, I.tok _, ⟨_, by simp only [List.size_toArray]; rw [hlen]⟩, q⟩
  | _ => exact (show False from e).elim
end
end L2
namespace L2
open PySem PySem.Spec PyProof.Rows
structure ip (h : Heap) (x dx C : Addr) (mA : Str → Option Value) : Prop where
  obj : h.get? x = some (PySem.W.instObj C dx)
  ns : h.Ns1 dx mA
  ne : dx ≠ x
theorem Bk {h : Heap} {dx : Addr} {mA : Str → Option Value} (n : h.Ns1 dx mA) : ∃ od, h.get? dx = some od ∧ ∀ name, PySem.W.lookIn name od = some (mA name) := by
  obtain ⟨o, es, ep, ho, hd, hk, _, hm⟩ := n
  refine ⟨o, ho, fun name => ?_⟩
  have e := hm name
  unfold nsFind findBy at e
  rw [← Array.find?_toList] at e
  unfold PySem.W.lookIn
  rw [hd]
  dsimp only
  split
  · rename_i y q
    rw [q] at e
    exact congrArg some e
  · rename_i q
    rw [q] at e
    have a : es.toList.any (·.refKey) = false := by
      rw [List.any_eq_false]
      intro y hy
      obtain ⟨z, t, hkey⟩ := hk y (Array.mem_toList_iff.mp hy)
      simp [DictEntry.refKey, hkey]
    have a' : ¬ es.toList.any (·.refKey) = true := by rw [a]; exact Bool.false_ne_true
    rw [if_neg a']
    exact congrArg some e
theorem ip.look {h : Heap} {x dx C : Addr} {mA : Str → Option Value} (I : ip h x dx C mA) : ∃ od, PySem.W.InstAt h x (PySem.W.instObj C dx) C (some od) ∧ ∀ name, PySem.W.lookIn name od = some (mA name) :=
  let ⟨od, ho, hl⟩ := Bk I.ns
  ⟨od, ⟨I.obj, rfl, rfl, ho⟩, hl⟩
section
variable {prog : Program} {w : World} {A : Around} {E : Value → Shared → Prop} {s : Shared} {K : PySem.W.Frag} {x dx C f : Addr} {mA : Str → Option Value} {name : Str} {v : Value}
theorem get_map {expr : Bool} {Q : Value → Shared → Prop} (X : K.In s.heap) (I : ip s.heap x dx C mA) (hg : PySem.W.plainGet K C name = true) (hh : PySem.W.hasDictIn K C = true)
    (ha : PySem.W.findIn K (.ref C) name = some none) (hv : mA name = some v) (hv' : PySem.W.handedIn v = true) (h : Q v { s with toks := s.toks + 1 }) :
    wpAny (model prog w) A (getAttr (.ref x) name expr) Q E s := by
  obtain ⟨od, J, hl⟩ := I.look
  exact PySem.W.get_value X J (PySem.W.plainGet_of hg).1 (PySem.W.findObj_own hh ha rfl (by rw [hl, hv])) hv' h
theorem xU {pl : Sem Bool} {Q : Value × List Value → Shared → Prop} (X : K.In s.heap) (I : ip s.heap x dx C mA) (hg : PySem.W.plainGet K C name = true)
    (hf : PySem.W.findIn K (.ref C) name = some (some (.ref f))) (ht : PySem.W.isFn K (.ref f) = true) (hv : mA name = none) (h : Q (.ref f, [.ref x]) s) :
    wpAny (model prog w) A (getMethod (.ref x) name pl) Q E s := by
  obtain ⟨od, J, hl⟩ := I.look
  exact PySem.W.method_fn X J (PySem.W.plainGet_of hg).1 (PySem.W.plainGet_of hg).2 hf (beq_iff_eq.mp ht) (by show (PySem.W.lookIn name od).map (·.isSome) = some false; rw [hl, hv]; rfl) h
theorem zy {ns : List Str} {Q : Unit → Shared → Prop} (X : K.In s.heap) (I : ip s.heap x dx C mA)
    (hs : PySem.W.findIn K (.ref C) "__setattr__" = some (some (.builtin "object.__setattr__"))) (hp : PySem.W.plainOver K C = true) (ht : PySem.W.takerIn K C name = some none) (hh : PySem.W.hasDictIn K C = true)
    (hw : PySem.Within mA ns) (hsz : ns.length ≤ sizeLine)
    (h : ∀ h', ip h' x dx C (fun y => if y = name then some v else mA y) → Heap.SameBut dx s.heap h' → Q () { s with heap := h', toks := s.toks + 2 }) :
    wpAny (model prog w) A (setAttr (.ref x) name v) Q E s := by
  obtain ⟨od, J, hl⟩ := I.look
  refine PySem.W.set_plain X J hs (PySem.W.osa_open (s := { s with toks := s.toks + 1 }) (r := none) X J hp ht fun b => ?_)
  obtain ⟨cd, hc, hd'⟩ := PySem.W.any_some hh
  have hx : s.heap.get? x = some ⟨.ref C, some dx, .plain, #[]⟩ := I.obj
  refine wpAny_bind (wpAny_pure (wpAny_bind (wpAny_bind (wpAny_loadPart hx (wpAny_bind (PySem.W.Looks.here (s := { s with toks := s.toks + 1 }) (PySem.W.looks_clsIn X hc) ?_))))))
  rw [hd']
  refine wpAny_pure (a := some dx) (wpAny_bind (wpAny_pure (wpAny_bind ?_)))
  refine wpAny_nsSet1 (s := { s with toks := s.toks + 1 }) I.ns fun h' hn2 hs2 => ?_
  obtain ⟨oD, esD, epD, hoD, hdD, hcD⟩ := hn2.count (PySem.Within.cons name v hw)
  refine wpAny_bind (wpAny_lookBehind hoD (by rw [hdD]; exact pastItsLine_dict (Nat.le_trans hcD (by rw [List.length_cons]; omega))) ?_)
  exact wpAny_pure (h _ ⟨(hs2.2 _ (Ne.symm I.ne)).trans I.obj, hn2, I.ne⟩ hs2)
theorem yf {R : Result → Shared → Prop} {vs : List Value} {kw : List (Str × Value)} (X : K.In s.heap) (hm : PySem.W.makesIn K C = true)
    (hi : PySem.W.findIn K (.ref C) "__init__" = some (some (.ref f))) (hf : PySem.W.typeIn K (.ref f) = some (.type "function"))
    (h : codeAny (model prog w) (A.under (.builtin "type.__call__" ⟨.ref C :: vs, kw⟩)) (.call (.ref f) ⟨.ref (s.heap.objs.size + 1) :: vs, kw⟩) (PySem.W.InitBack (s.heap.objs.size + 1) R)
      { s with heap := (s.heap.push PySem.W.emptyDict).push (PySem.W.instObj C s.heap.objs.size) }) :
    codeAny (model prog w) A (.call (.ref C) ⟨vs, kw⟩) R s := by
  obtain ⟨hh, g, d, t, os⟩ := s
  exact PySem.W.make_core (PySem.W.makes_of X hm) (PySem.W.looks_findIn X hi) (fun self => PySem.W.bind_fn X self hf) (.inl rfl) h
end
noncomputable def cB (f : Str) (v : V) : List (Str × V) → List (Str × V)
  | [] => [(f, v)]
  | (g, x) :: r => if g = f then (g, v) :: r else (g, x) :: cB f v r
theorem r9 (f g : Str) (v : V) : ∀ fs : List (Str × V), (cB f v fs).lookup g = if g = f then some v else fs.lookup g
  | [] => by
    show List.lookup g [(f, v)] = _
    by_cases h : g = f
    · have hb : (g == f) = true := beq_iff_eq.mpr h
      simp only [List.lookup, hb, if_pos h]
    · have hb : (g == f) = false := beq_eq_false_iff_ne.mpr h
      simp only [List.lookup, hb, if_neg h]
  | (k, x) :: r => by
    have ih := r9 f g v r
    rw [show cB f v ((k, x) :: r) = (if k = f then (k, v) :: r else (k, x) :: cB f v r) from rfl]
    by_cases hk : k = f
    · rw [if_pos hk]
      by_cases h : g = k
      · have hb : (g == k) = true := beq_iff_eq.mpr h
        simp only [List.lookup, hb, if_pos (h.trans hk)]
      · have hb : (g == k) = false := beq_eq_false_iff_ne.mpr h
        simp only [List.lookup, hb, if_neg (fun e : g = f => h (e.trans hk.symm))]
    · rw [if_neg hk]
      by_cases h : g = k
      · have hb : (g == k) = true := beq_iff_eq.mpr h
        simp only [List.lookup, hb, if_neg (fun e : g = f => hk (h.symm.trans e))]
      · have hb : (g == k) = false := beq_eq_false_iff_ne.mpr h
        simp only [List.lookup, hb]
        exact ih
theorem oA (f : Str) (v : V) : ∀ fs : List (Str × V), f ∈ (cB f v fs).map (·.1) ∧ ∀ g, g ∈ fs.map (·.1) → g ∈ (cB f v fs).map (·.1)
  | [] => ⟨by simp [cB], fun g h => by simp at h⟩
  | (k, x) :: r => by
    obtain ⟨i1, i2⟩ := oA f v r
    rw [show cB f v ((k, x) :: r) = (if k = f then (k, v) :: r else (k, x) :: cB f v r) from rfl]
    by_cases hk : k = f
    · rw [if_pos hk]
      subst hk
      exact ⟨by simp, fun g h => by simpa using h⟩
    · rw [if_neg hk]
      refine ⟨?_, fun g h => ?_⟩
      · rw [List.map_cons]
        exact List.mem_cons_of_mem _ i1
      · rw [List.map_cons] at h ⊢
        rcases List.mem_cons.mp h with e | e
        · exact List.mem_cons.mpr (.inl e)
        · exact List.mem_cons_of_mem _ (i2 g e)
theorem sC (f : Str) (v : V) : ∀ fs : List (Str × V), (cB f v fs).length ≤ fs.length + 1
  | [] => by simp [cB]
  | (k, x) :: r => by
    have ih := sC f v r
    rw [show cB f v ((k, x) :: r) = (if k = f then (k, v) :: r else (k, x) :: cB f v r) from rfl]
    by_cases hk : k = f
    · rw [if_pos hk, List.length_cons, List.length_cons]; omega
    · rw [if_neg hk, List.length_cons, List.length_cons]; omega
theorem df.some_of {v : V} {o : Option Value} (r : df (some v) o) : ∃ u, o = some u ∧ RelV v u := by
  cases o with
  | none => exact (show False from r).elim
  | some u => exact ⟨u, rfl, r⟩
theorem df.none_of {o : Option Value} (r : df none o) : o = none := by
  cases o with
  | none => rfl
  | some u => exact (show False from r).elim
theorem uA {v : V} {u : Value} (r : RelV v u) : PySem.W.handedIn u = true := by
  cases v with
  | non => cases (show u = Value.none from r); rfl
  | bl b => cases (show u = Value.bool b from r); rfl
  | int i => obtain ⟨t, e⟩ := (show ∃ t, u = Value.int i t from r); cases e; rfl
  | str x => obtain ⟨t, e⟩ := (show ∃ t, u = Value.str x t from r); cases e; rfl
  | byt b => obtain ⟨t, e⟩ := (show ∃ t, u = Value.bytes b t from r); cases e; rfl
  | flt b => obtain ⟨t, e⟩ := (show ∃ t, u = Value.float b t from r); cases e; rfl
  | ref a => cases (show u = Value.ref a from r); rfl
  | ty n => cases (show u = Value.type n from r); rfl
section
variable {P : Program} {w : World} {H H' : Hp} {h h' : Heap} {a C dx : Addr} {fs fs' : List (Str × V)}
theorem oi (hok : HOk P w H h) (e : H a = some (.ins C dx fs)) : ∃ mA, ip h a dx C mA ∧ (∀ f, df (fs.lookup f) (mA f)) ∧ PySem.Within mA (fs.map (·.1)) ∧ fs.length ≤ 1000 ∧ H dx = some (.own a) := by
  obtain ⟨d, z, ne, ob, mA, n, r, q⟩ := (show bL P w H h a (.ins C dx fs) from hok a _ e)
  exact ⟨mA, ⟨ob, n, ne⟩, r, q, z, d⟩
end
structure Cls (K : PySem.W.Frag) (C : Addr) : Prop where
  pg : PySem.W.plainGet K C Str.empty = true
  hd : PySem.W.hasDictIn K C = true
  po : PySem.W.plainOver K C = true
  sa : PySem.W.findIn K (.ref C) "__setattr__" = some (some (.builtin "object.__setattr__"))
theorem Cls.get {K : PySem.W.Frag} {C : Addr} (c : Cls K C) (f : Str) : PySem.W.plainGet K C f = true := c.pg
noncomputable def fW (K : PySem.W.Frag) (C : Addr) (f : Str) : Prop := PySem.W.findIn K (.ref C) f = some none
theorem fW.taker {K : PySem.W.Frag} {C : Addr} {f : Str} (n : fW K C f) : PySem.W.takerIn K C f = some none := by
  unfold PySem.W.takerIn
  rw [show PySem.W.findIn K (.ref C) f = some none from n]
  rfl
structure Con (K : PySem.W.Frag) (C : Addr) (f : Str) (v : V) (u : Value) : Prop where
  at_ : PySem.W.findIn K (.ref C) f = some (some u)
  rel : RelV v u
  get : PySem.W.specialIn K u "__get__" = some none
  cp : PySem.W.copiedNames.contains f = false
structure Meth (K : PySem.W.Frag) (C : Addr) (m : Str) (f : Addr) : Prop where
  at_ : PySem.W.findIn K (.ref C) m = some (some (.ref f))
  fn : PySem.W.isFn K (.ref f) = true
  kp : PySem.W.keepIn K (.ref f) = true
section
variable {X : Cx} {pins : List (Addr × Obj)} {σ : St} {H : Hp} {s : Shared} {a C dx : Addr} {fs : List (Str × V)} {f : Str} {v : V} {A : Around} {E : Value → Shared → Prop}
theorem wD {b : Bool} {Q : Value → Shared → Prop} (I : Inv X pins σ H s) (e : H a = some (.ins C dx fs)) (c : Cls X.K C) (n : fW X.K C f) (l : fs.lookup f = some v)
    (h : ∀ u s', Inv X pins σ H s' → RelV v u → Q u s') : wpAny (model X.prog X.w) A (getAttr (.ref a) f b) Q E s := by
  obtain ⟨mA, O, r, _, _, _⟩ := oi I.hok e
  obtain ⟨u, hu, ru⟩ := df.some_of (v := v) (o := mA f) (by rw [← l]; exact r f)
  exact get_map I.kIn O (c.get f) c.hd n hu (uA ru) (h u _ (I.tok _) ru)
theorem om {m : Str} {g : Addr} {pl : Sem Bool} {Q : Value × List Value → Shared → Prop} (I : Inv X pins σ H s) (e : H a = some (.ins C dx fs)) (c : Cls X.K C) (k : Meth X.K C m g) (l : fs.lookup m = none)
    (h : Q (.ref g, [.ref a]) s) : wpAny (model X.prog X.w) A (getMethod (.ref a) m pl) Q E s := by
  obtain ⟨mA, O, r, _, _, _⟩ := oi I.hok e
  have hn : mA m = none := df.none_of (by rw [← l]; exact r m)
  exact xU I.kIn O (c.get m) k.at_ k.fn hn h
theorem wR {y : V} {u : Value} {Q : Unit → Shared → Prop} (I : Inv X pins σ H s) (e : H a = some (.ins C dx fs)) (c : Cls X.K C) (n : fW X.K C f) (hl : fs.length < 1000) (ry : RelV y u)
    (h : ∀ s', Inv X pins σ (upd H a (.ins C dx (cB f y fs))) s' → Q () s') : wpAny (model X.prog X.w) A (setAttr (.ref a) f u) Q E s := by
  obtain ⟨mA, O, r, wi, _, ho⟩ := oi I.hok e
  have hz : (fs.map (·.1)).length ≤ sizeLine := by rw [List.length_map, sizeLine_eq]; omega
  refine zy I.kIn O c.sa c.po n.taker c.hd wi hz fun h' O' sb => h _ ?_
  have hd : ∃ o, h'.get? dx = some o := let ⟨o, _, _, e', _⟩ := O'.ns; ⟨o, e'⟩
  refine I.write (x := a) (e := dx) (by rw [e]; exact True.intro) (.inr ho) (fun b q hb z => (sb.2 b hb).trans z) hd ?_
  refine ⟨by rw [aD O.ne]; exact ho, ?_, O.ne, O'.obj, _, O'.ns, fun g => ?_, fun g hg => ?_⟩
  · have := sC f y fs; omega
  · show df ((cB f y fs).lookup g) (if g = f then some u else mA g)
    rw [r9]
    by_cases q : g = f
    · rw [if_pos q, if_pos q]; exact ry
    · rw [if_neg q, if_neg q]; exact r g
  · by_cases q : g = f
    · rw [q]; exact (oA f y fs).1
    · refine (oA f y fs).2 g (wi g fun z => hg ?_)
      show (if g = f then some u else mA g) = none
      rw [if_neg q]; exact z
theorem Inv.made (I : Inv X pins σ H s) : Inv X pins σ (upd (upd H s.heap.objs.size (.own (s.heap.objs.size + 1))) (s.heap.objs.size + 1) (.ins C s.heap.objs.size []))
    { s with heap := (s.heap.push PySem.W.emptyDict).push (PySem.W.instObj C s.heap.objs.size) } := by
  have e1 : (s.heap.push PySem.W.emptyDict).get? s.heap.objs.size = some PySem.W.emptyDict := Heap.get?_push_size s.heap rfl
  have e2 : ((s.heap.push PySem.W.emptyDict).push (PySem.W.instObj C s.heap.objs.size)).get? (s.heap.objs.size + 1) = some (PySem.W.instObj C s.heap.objs.size) := by
    have := Heap.get?_push_size (s.heap.push PySem.W.emptyDict) (o := PySem.W.instObj C s.heap.objs.size) rfl
    rwa [Heap.size_push] at this
  have e3 : (s.heap.push PySem.W.emptyDict).Ns s.heap.objs.size (fun _ => none) := ⟨PySem.W.emptyDict, #[], _, e1, rfl, (fun e he => absurd he (by simp)), fun _ => rfl⟩
  have I1 := I.laid (a := s.heap.objs.size) (o := .own (s.heap.objs.size + 1)) (h' := s.heap.push PySem.W.emptyDict) (t' := s.toks) (fun b u q => Heap.get?_push_of_some _ q) (Nat.le_refl _) ⟨_, e1⟩
  refine I1.laid (a := s.heap.objs.size + 1) (o := .ins C s.heap.objs.size []) (t' := s.toks) (fun b u q => Heap.get?_push_of_some _ q) (Nat.le_of_eq (Heap.size_push _ _)) ?_
  have ne : s.heap.objs.size ≠ s.heap.objs.size + 1 := Nat.ne_of_lt (Nat.lt_succ_self _)
  refine ⟨by rw [aD ne, aT], Nat.zero_le _, ne, e2, fun _ => none, (Heap.Ns1.of_empty e3).at fun o q => Heap.get?_push_of_some _ q, fun _ => True.intro, fun y hy => absurd rfl hy⟩
theorem u5 {prog : Program} {w : World} {env : Env} {e : Expr} {f : Str} {pos : Pos} {s : Shared} {Q : Value → Shared → Prop} (hb : attributeBase e f env (eval e env) = eval e env)
    (h : wpAny (model prog w) A (eval e env) (fun o s₁ => wpAny (model prog w) A (getAttr o f true) Q E s₁) E s) : wpAny (model prog w) A (eval (.Attribute e f pos) env) Q E s :=
  Attribute_any_ h (by rw [arm_eval_Attribute, hb])
end
noncomputable def wu (K : PySem.W.Frag) (ta : TE) (f : Str) : TE := fun σ H Q => ta σ H fun x H1 => ∃ a C dx fs v, x = .ref a ∧ H1 a = some (.ins C dx fs) ∧ Cls K C ∧ fW K C f ∧ fs.lookup f = some v ∧ Q v H1
noncomputable def ni (K : PySem.W.Frag) (ta tv : TE) (f : Str) : TS := fun D σ H => tv σ H fun y H1 => ta σ H1 fun x H2 => ∃ a C dx fs, x = .ref a ∧ H2 a = some (.ins C dx fs) ∧ Cls K C ∧ fW K C f ∧ fs.length < 1000 ∧
  D.nx σ (upd H2 a (.ins C dx (cB f y fs)))
section
variable {X : Cx} {o e value : Expr} {f : Str} {pos pos' tpos : Pos} {ta tv : TE}
theorem j5 (he : PE X e ta) (hb : attributeBase e f X.env (eval e X.env) = eval e X.env) : PE X (.Attribute e f pos) (wu X.K ta f) := by
  intro pins s σ H Q I h
  refine u5 hb (thn (he pins s σ H _ I h) fun u s1 ⟨x, H1, I1, rx, a, C, dx, fs, v, ex, ea, c, n, l, q⟩ => ?_)
  subst ex
  obtain rfl : u = Value.ref a := rx
  exact wD I1 ea c n l fun u' s2 I2 ru => ⟨v, H1, I2, ru, q⟩
theorem o6 (ha : PE X o ta) (hv : PE X value tv) (hs : swapsWith value (some (.Attribute o f pos')) pos.line X.env = pure false) : PS X (.Assign [.Attribute o f pos'] value pos) (ni X.K ta tv f) := by
  intro pins s σ H D I h
  refine plainObj_wpAny_Assign_Attribute (thn (hv pins s σ H _ I h) fun u s1 ⟨y, H1, I1, ry, q⟩ => thn (ha pins s1 σ H1 _ I1 q) fun ov s2 ⟨x, H2, I2, rx, a, C, dx, fs, ex, ea, c, n, l, q2⟩ => ?_) hs
  subst ex
  obtain rfl : ov = Value.ref a := rx
  exact wR I2 ea c n l ry fun s3 I3 => ⟨σ, _, I3, q2⟩
end
section
variable {X : Cx} {pins : List (Addr × Obj)} {σ : St} {H : Hp} {s : Shared} {A : Around} {E : Value → Shared → Prop} {Q : Value → Shared → Prop} {c : Value} {b : Bool}
inductive eS (K : PySem.W.Frag) (H : Hp) : V → Value → Prop where
  | non : eS K H .non (.type "NoneType")
  | bl (x : Bool) : eS K H (.bl x) (.type "bool")
  | int (i : Int) : eS K H (.int i) (.type "int")
  | str (x : Str) : eS K H (.str x) (.type "str")
  | flt (x : UInt64) : eS K H (.flt x) (.type "float")
  | lst {a : Addr} {xs : List V} (e : H a = some (.lst xs)) : eS K H (.ref a) (.type "list")
  | frz {a : Addr} {o : Obj} {xs : List V} (e : H a = some (.frz o (.lst xs))) : eS K H (.ref a) (.type "list")
  | tup {a : Addr} {xs : List V} (e : H a = some (.tup xs)) : eS K H (.ref a) (.type "tuple")
  | dK {a : Addr} {kvs : List (Key × V)} (e : H a = some (.dK kvs)) : eS K H (.ref a) (.type "dict")
  | dT {a : Addr} {kvs : List (List Key × V)} (e : H a = some (.dT kvs)) : eS K H (.ref a) (.type "dict")
  | ins {a C dx : Addr} {fs : List (Str × V)} (e : H a = some (.ins C dx fs)) (cl : Cls K C) (ha : PySem.W.findIn K (.ref C) "__class__" = some (some (.builtin "object.__class__")))
      (hn : PySem.W.specialIn K (.builtin "object.__class__") "__get__" = some (some (.builtin "getset_descriptor.__get__"))) (htk : PySem.W.takesIn K (.builtin "object.__class__") = some true)
      (hm : PySem.W.mroIn K C (.type "object") = some true) : eS K H (.ref a) (.ref C)
end
end L2
namespace L2
open PySem PySem.Spec PyProof.Rows
structure aU (k : Nat) (A : Around) : Prop where
  hd : A.handled = none
  dp : A.depth + 3 * k + 5 < recursionLimit
  un : A.units + 16 * k + 200 < cLine
  gd : A.guards = some []
theorem aU.mono {j k : Nat} {A : Around} (r : aU k A) (h : j ≤ k) : aU j A := ⟨r.hd, by have := r.dp; omega, by have := r.un; omega, r.gd⟩
theorem aU.deeper {k : Nat} {A : Around} (r : aU (k + 1) A) (env : Env) : aU k (A.deeper env) :=
  ⟨r.hd, by have := r.dp; show A.depth + 1 + 3 * k + 5 < _; omega, by have := r.un; show A.units + 3 + 16 * k + 200 < _; omega, r.gd⟩
theorem vG {A : Around} {C : Addr} {us : List Value} {kw : List (Str × Value)} : (A.under (.builtin "type.__call__" ⟨.ref C :: us, kw⟩)).depth = A.depth + 1 := by
  first | rfl | simp [Around.under, Code.weight, Code.isCreation, Code.isGuard, Code.isCaller, Code.frames, Code.isFrame, guardIds]
theorem AX {A : Around} {C : Addr} {us : List Value} {kw : List (Str × Value)} : (A.under (.builtin "type.__call__" ⟨.ref C :: us, kw⟩)).units = A.units + 1 := by
  first | rfl | simp [Around.under, Code.cUnits, Code.frames, Code.isFrame]
theorem aU.make {k : Nat} {A : Around} (r : aU (k + 1) A) (C : Addr) (us : List Value) (kw : List (Str × Value)) : aU k (A.under (.builtin "type.__call__" ⟨.ref C :: us, kw⟩)) :=
  ⟨r.hd, by have := r.dp; rw [vG]; omega, by have := r.un; rw [AX]; omega, by have := r.gd; simp [Around.under, Code.guards, Code.isGuard, guardIds, pushGuards, this]⟩
theorem aU.depth {k : Nat} {A : Around} (r : aU k A) : A.depth < recursionLimit := by have := r.dp; omega
theorem aU.units {k : Nat} {A : Around} (r : aU k A) : A.units + 64 < cLine := by have := r.un; omega
theorem aU.units0 {k : Nat} {A : Around} (r : aU k A) : A.units < cLine := by have := r.un; omega
noncomputable def gL : TA := fun _ H Q => Q [] H
noncomputable def jS (ta : TE) (tr : TA) : TA := fun σ H Q => ta σ H fun x H1 => tr σ H1 fun xs H2 => Q (x :: xs) H2
section
variable {X : Cx} {e : Expr} {es : List Expr} {te : TE} {t : TA} {pos : Pos}
theorem eA : PA X [] gL := fun _ _ _ _ H Q I h => Calls.spliced_nil ⟨[], H, I, .nil, h⟩
theorem dX (ha : PE X e te) (hr : PA X es t) (hs : starEach (e :: es) X.env = (false, eval e X.env) :: starEach es X.env := by rfl) : PA X (e :: es) (jS te t) := by
  intro pos pins s σ H Q I h
  rw [hs]
  show wpAny _ _ (spliced ((false, eval e X.env) :: backTo pos (starEach es X.env))) _ _ s
  refine Calls.spliced_cons (thn (ha pins s σ H _ I h) fun u s1 ⟨x, H1, I1, r1, q1⟩ => ?_)
  exact thn (hr pos pins s1 σ H1 _ I1 q1) fun us s2 ⟨xs, H2, I2, r2, q2⟩ => ⟨x :: xs, H2, I2, .cons r1 r2, q2⟩
noncomputable def sv (t : TA) : TE := fun σ H Q => t σ H fun xs H1 => xs.length ≤ sizeLine ∧ ∀ p, H1 p = none → Q (.ref p) (upd H1 p (.tup xs))
noncomputable def kS (t : TA) : TE := fun σ H Q => t σ H fun xs H1 => xs.length ≤ sizeLine ∧ ∀ p, H1 p = none → Q (.ref p) (upd H1 p (.lst xs))
theorem nZ {x1} (h : PA X es t) : PE X (.Tuple es x1 pos) (sv t) := by
  intro pins s σ H Q I hq
  refine wpAny_Tuple_spliced (thn (h pos pins s σ H _ I hq) fun us s1 ⟨xs, H1, I1, r, z, q⟩ => ⟨by rw [← r.length]; exact z, ?_⟩)
  have hf : H1 s1.heap.objs.size = none := I1.hok.fresh (Nat.le_refl _)
  refine ⟨.ref s1.heap.objs.size, upd H1 s1.heap.objs.size (.tup xs), I1.laid (t' := s1.toks) (fun b u e => Heap.get?_push_of_some _ e) (Nat.le_refl _) ?_, rfl, q _ hf⟩
  exact ⟨z, us, r, ⟨_, Heap.get?_push_size _ rfl, rfl, _, rfl⟩⟩
theorem mH (h : PA X es t) : PE X (.List es pos) (kS t) := by
  intro pins s σ H Q I hq
  refine wpAny_List_spliced (thn (h pos pins s σ H _ I hq) fun us s1 ⟨xs, H1, I1, r, z, q⟩ => ⟨by rw [← r.length]; exact z, ?_⟩)
  have hf : H1 s1.heap.objs.size = none := I1.hok.fresh (Nat.le_refl _)
  refine ⟨.ref s1.heap.objs.size, upd H1 s1.heap.objs.size (.lst xs), I1.laid (t' := s1.toks) (fun b u e => Heap.get?_push_of_some _ e) (Nat.le_refl _) ?_, rfl, q _ hf⟩
  exact ⟨z, us, 0, r, Heap.get?_push_size _ rfl⟩
end
noncomputable abbrev Sp := List V → Hp → VK → XK → Prop
noncomputable abbrev CXT := List Env → Hp → Shared → XK → Value → Shared → Prop
structure gj (P : Program) (w : World) (K : PySem.W.Frag) (mg : Str → Option Value) (base : Heap) (A : Around) (outer : List Env) (s : Shared) (H : Hp) : Prop where
  frames : A.frames = some outer
  mod : Mod K mg base
  bs : ∀ b o, base.get? b = some o → s.heap.get? b = some o ∧ H b = none
  bsz : base.objs.size ≤ s.heap.objs.size
  funs : s.heap.FunFrames base outer
  frf : ∀ b ∈ frs outer, H b = none
  hok : HOk P w H s.heap
  bare : AllBare s.gens
noncomputable def CE (outer : List Env) (P : Program) (w : World) (H : Hp) (s : Shared) (Q : VK) (u : Value) (s' : Shared) : Prop :=
  ∃ v H', s'.os = s.os ∧ AllBare s'.gens ∧ Un (frs outer) [] H H' s.heap s'.heap ∧ HOk P w H' s'.heap ∧ RelV v u ∧ Q v H'
noncomputable def CR (CX : CXT) (outer : List Env) (P : Program) (w : World) (H : Hp) (s : Shared) (Q : VK) (E : XK) (r : Result) (s' : Shared) : Prop :=
  match r with
  | .ok (.ret u) => CE outer P w H s Q u s'
  | .ok _ => False
  | .error e => CX outer H s E e s'
structure aO (P : Program) (w : World) (K : PySem.W.Frag) (mg : Str → Option Value) (base : Heap) (CX : CXT) (k : Nat) (f : Addr) (fd : FuncData) (ps : List Str) (sp : Sp) : Prop where
  len : ∀ vs H Q E, sp vs H Q E → vs.length = ps.length
  run : ∀ (A : Around) (outer : List Env) (s : Shared) (H : Hp) (args : Args) (us : List Value) (vs : List V) (Q : VK) (E : XK), aU k A → gj P w K mg base A outer s H → BindsTo s fd args (ps.zip us) → Vals vs us → sp vs H Q E →
    codeAny (model P w) A (.call (.ref f) args) (CR CX outer P w H s Q E) s
theorem aO.imp {P : Program} {w : World} {K : PySem.W.Frag} {mg : Str → Option Value} {base : Heap} {CX : CXT} {k : Nat} {f : Addr} {fd : FuncData} {ps : List Str} {sp sp' : Sp} (F : aO P w K mg base CX k f fd ps sp)
    (h : ∀ vs H Q E, sp' vs H Q E → sp vs H Q E) : aO P w K mg base CX k f fd ps sp' :=
  ⟨fun vs H Q E q => F.len vs H Q E (h _ _ _ _ q), fun A outer s H args us vs Q E hr he hb hv hs => F.run A outer s H args us vs Q E hr he hb hv (h _ _ _ _ hs)⟩
theorem gj.make {P : Program} {w : World} {K : PySem.W.Frag} {mg : Str → Option Value} {base : Heap} {A : Around} {outer : List Env} {s : Shared} {H : Hp} (e : gj P w K mg base A outer s H) (C : Addr) (us : List Value) (kw : List (Str × Value)) :
    gj P w K mg base (A.under (.builtin "type.__call__" ⟨.ref C :: us, kw⟩)) outer s H := ⟨by first | exact e.frames | (simpa [Around.under, Code.envs, Code.isFrame, pushEnvs] using e.frames), e.mod, e.bs, e.bsz, e.funs, e.frf, e.hok, e.bare⟩
section
variable {X : Cx} {pins : List (Addr × Obj)} {σ : St} {H : Hp} {s s' : Shared}
theorem Inv.env0 (I : Inv X pins σ H s) : gj X.prog X.w X.K X.mg X.base X.A X.stack s H :=
  ⟨I.ok.frames, I.ok.mod, I.bs, Nat.le_trans I.ok.bsz I.sz, I.stack, I.stkFree, I.hok, I.bare⟩
theorem Inv.after {Q : VK} {u : Value} (I : Inv X pins σ H s) (h : CE X.stack X.prog X.w H s Q u s') : EP X pins σ Q u s' := by
  obtain ⟨v, H', os, bare, un, hok, r, q⟩ := h
  obtain ⟨hh, g, d, t, os'⟩ := s'
  obtain rfl : os' = s.os := os
  exact ⟨v, H', I.call (h' := hh) (g' := g) (d' := d) (t' := t) (ch := []) un hok bare (fun b z => absurd z (by simp)), r, q⟩
end
noncomputable def ji (sp : Sp) (dvs : List V) (E : XK) (t : TA) : TE := fun σ H Q => t σ H fun vs H1 => sp (vs ++ dvs) H1 Q E
noncomputable def my (C : Addr) (m : Str) (sp : Sp) (dvs : List V) (E : XK) (ta : TE) (t : TA) : TE := fun σ H Q => ta σ H fun x H1 => ∃ a dx fs, x = .ref a ∧ H1 a = some (.ins C dx fs) ∧ fs.lookup m = none ∧
  t σ H1 fun vs H2 => sp (x :: (vs ++ dvs)) H2 Q E
noncomputable def zz (C : Addr) (sp : Sp) (dvs : List V) (E : XK) (t : TA) : TE := fun σ H Q => t σ H fun vs H1 => ∀ x dx, H1 x = none → H1 dx = none → dx ≠ x →
  sp (.ref x :: (vs ++ dvs)) (upd (upd H1 dx (.own x)) x (.ins C dx [])) (fun v H2 => v = .non ∧ Q (.ref x) H2) E
noncomputable def Binds (K : PySem.W.Frag) (fd : FuncData) (ps : List Str) (ds : List Value) : Prop :=
  ∀ (s : Shared) (us : List Value), K.In s.heap → (us ++ ds).length = ps.length → BindsTo s fd ⟨us, []⟩ (ps.zip (us ++ ds))
theorem Binds.all {K : PySem.W.Frag} {fd : FuncData} {ps : List Str} (h : ∀ us : List Value, us.length = ps.length → bindArgs fd ⟨us, []⟩ = pure (ps.zip us)) : Binds K fd ps [] := fun s us _ hl => by
  rw [List.append_nil] at hl ⊢
  exact .of_eq (h us hl)
noncomputable def Passes (CX : CXT) (X : Cx) (E : XK) : Prop := ∀ (pins : List (Addr × Obj)) (σ : St) (H : Hp) (s : Shared) (e : Value) (s' : Shared), Inv X pins σ H s → CX X.stack H s E e s' → X.xe e s'
section
variable {X : Cx} {CX : CXT} {k : Nat} {f C : Addr} {fd : FuncData} {ps : List Str} {sp : Sp} {dvs : List V} {ds : List Value} {E : XK} {x m : Str} {p pos apos : Pos} {e o : Expr} {es : List Expr} {ta : TE} {t : TA}
theorem o8 {pins : List (Addr × Obj)} {σ : St} {H : Hp} {s : Shared} {Q : VK} {us : List Value} {vs : List V} (F : aO X.prog X.w X.K X.mg X.base CX k f fd ps sp) (hr : aU k X.A) (hb : Binds X.K fd ps ds) (hd : Vals dvs ds) (hx : Passes CX X E)
    (I : Inv X pins σ H s) (r : Vals vs us) (h : sp (vs ++ dvs) H Q E) : wpAny (model X.prog X.w) X.A (call (.ref f) us) (EP X pins σ Q) X.xe s := by
  have r2 : Vals (vs ++ dvs) (us ++ ds) := r.append hd
  have hl : (us ++ ds).length = ps.length := by rw [← r2.length]; exact F.len _ _ _ _ h
  refine wpAny_call (codeAny_mono (F.run X.A X.stack s H ⟨us, []⟩ (us ++ ds) (vs ++ dvs) Q E hr I.env0 (hb s us I.kIn hl) r2 h) fun r s' hq => ?_)
  cases r with
  | error e => exact hx pins σ H s e s' I hq
  | ok fl =>
    cases fl with
    | ret u => exact I.after hq
    | next => exact False.elim hq
    | brk => exact False.elim hq
    | cont => exact False.elim hq
theorem lO (F : aO X.prog X.w X.K X.mg X.base CX k f fd ps sp) (hr : aU k X.A) (hg : Gl X x) (hm : X.mg x = some (.ref f)) (hk : PySem.W.keepIn X.K (.ref f) = true) (hb : Binds X.K fd ps ds) (hd : Vals dvs ds) (hx : Passes CX X E)
    (ha : PA X (e :: es) t) (hdb : (x == ("__debug__" : Str)) = false := by decide) (he : starEach (e :: es) X.env = (false, eval e X.env) :: starEach es X.env := by rfl) (hpl : (backTo pos (starEach es X.env)).any (·.1) = false := by rfl) :
    PE X (.Call (.Name x p) (e :: es) [] pos) (ji sp dvs E t) := by
  intro pins s σ H Q I h
  refine wpAny_Call_Name_kw (iO I hg hm ?_ hdb)
  refine PySem.W.callWith_K (h₀ := X.base) I.ok.mod.kin hk (thn (ha pos pins s σ H _ I h) fun us s1 ⟨vs, H1, I1, r, q⟩ => ⟨I1.kIn, ?_⟩) he hpl
  exact o8 F hr hb hd hx I1 r q
theorem oX {pl : Sem Bool} (he : PE X o ta) (c : Cls X.K C) (hm : Meth X.K C m f) (F : aO X.prog X.w X.K X.mg X.base CX k f fd ps sp) (hr : aU k X.A) (hb : Binds X.K fd ps ds) (hd : Vals dvs ds) (hx : Passes CX X E) (ha : PA X (e :: es) t)
    (hst : starEach (e :: es) X.env = (false, eval e X.env) :: starEach es X.env := by rfl) (hpl : (backTo pos (starEach es X.env)).any (·.1) = false := by rfl)
    (ht : eval (.Call (.Attribute o m apos) (e :: es) [] pos) X.env = (do
      let ov ← eval o X.env
      standAt apos.atName
      let (f, first) ← holding [ov] (getMethod ov m pl)
      callWith pos f first (backTo pos (starEach (e :: es) X.env)) (backToKw pos (keywordEach [] X.env))) := by rfl) :
    PE X (.Call (.Attribute o m apos) (e :: es) [] pos) (my C m sp dvs E ta t) := by
  intro pins s σ H Q I h
  refine PySem.W.methodCall_KW (pl := pl) (thn (he pins s σ H _ I h) fun u s1 ⟨x, H1, I1, rx, a, dx, fs, ex, ea, l, q⟩ => ?_) ht
  subst ex
  obtain rfl : u = Value.ref a := rx
  refine om I1 ea c hm l ?_
  refine PySem.W.callWith_K (first := [.ref a]) (h₀ := X.base) I.ok.mod.kin hm.kp (thn (ha pos pins s1 σ H1 _ I1 q) fun us s2 ⟨vs, H2, I2, r, q2⟩ => ⟨I2.kIn, ?_⟩) hst hpl
  exact o8 (us := .ref a :: us) (vs := .ref a :: vs) F hr hb hd hx I2 (.cons rfl r) q2
theorem xJ {pl : Sem Bool} (he : PE X o ta) (c : Cls X.K C) (hm : Meth X.K C m f) (F : aO X.prog X.w X.K X.mg X.base CX k f fd ps sp) (hr : aU k X.A) (hb : Binds X.K fd ps ds) (hd : Vals dvs ds) (hx : Passes CX X E)
    (ht : eval (.Call (.Attribute o m apos) [] [] pos) X.env = (do
      let ov ← eval o X.env
      standAt apos.atName
      let (f, first) ← holding [ov] (getMethod ov m pl)
      callWith pos f first (backTo pos (starEach [] X.env)) (backToKw pos (keywordEach [] X.env))) := by rfl) :
    PE X (.Call (.Attribute o m apos) [] [] pos) (my C m sp dvs E ta gL) := by
  intro pins s σ H Q I h
  refine PySem.W.methodCall_KW (pl := pl) (thn (he pins s σ H _ I h) fun u s1 ⟨x, H1, I1, rx, a, dx, fs, ex, ea, l, q⟩ => ?_) ht
  subst ex
  obtain rfl : u = Value.ref a := rx
  refine om I1 ea c hm l ?_
  exact PySem.W.callWith_K0 (first := [.ref a]) I1.kIn hm.kp (o8 (us := [.ref a]) (vs := [.ref a]) F hr hb hd hx I1 (.cons rfl .nil) q)
structure Mk (K : PySem.W.Frag) (C f : Addr) : Prop where
  makes : PySem.W.makesIn K C = true
  init : PySem.W.findIn K (.ref C) "__init__" = some (some (.ref f))
  fn : PySem.W.isFn K (.ref f) = true
  kp : PySem.W.keepIn K (.ref C) = true
theorem yj {pins : List (Addr × Obj)} {σ : St} {H : Hp} {s : Shared} {Q : VK} {us : List Value} {vs : List V} (M : Mk X.K C f) (F : aO X.prog X.w X.K X.mg X.base CX k f fd ps sp) (hr : aU (k + 1) X.A) (hb : Binds X.K fd ps ds) (hd : Vals dvs ds)
    (hx : Passes CX X E) (I : Inv X pins σ H s) (r : Vals vs us)
    (h : ∀ x dx, H x = none → H dx = none → dx ≠ x → sp (.ref x :: (vs ++ dvs)) (upd (upd H dx (.own x)) x (.ins C dx [])) (fun v H2 => v = .non ∧ Q (.ref x) H2) E) :
    wpAny (model X.prog X.w) X.A (call (.ref C) us) (EP X pins σ Q) X.xe s := by
  have hq := h (s.heap.objs.size + 1) s.heap.objs.size (I.hok.fresh (Nat.le_succ _)) (I.hok.fresh (Nat.le_refl _)) (Nat.ne_of_lt (Nat.lt_succ_self _))
  have I2 := Inv.made (C := C) I
  have r2 : Vals (V.ref (s.heap.objs.size + 1) :: (vs ++ dvs)) (Value.ref (s.heap.objs.size + 1) :: (us ++ ds)) := .cons rfl (r.append hd)
  have hl : (Value.ref (s.heap.objs.size + 1) :: us ++ ds).length = ps.length := by
    have e := r2.length
    rw [F.len _ _ _ _ hq] at e
    exact e.symm
  refine wpAny_call (yf (f := f) I.kIn M.makes M.init (beq_iff_eq.mp M.fn) (codeAny_mono (F.run _ X.stack _ _ ⟨Value.ref (s.heap.objs.size + 1) :: us, []⟩ (Value.ref (s.heap.objs.size + 1) :: (us ++ ds)) _ _ E (hr.make C us [])
    (I2.env0.make C us []) (hb _ (Value.ref (s.heap.objs.size + 1) :: us) I2.kIn hl) r2 hq) fun r s' hq' => ?_))
  cases r with
  | error e => exact hx pins σ _ _ e s' I2 hq'
  | ok fl =>
    cases fl with
    | ret u =>
      obtain ⟨v, H', I3, rv, ev, q3⟩ := I2.after hq'
      subst ev
      exact ⟨rv, ⟨V.ref (s.heap.objs.size + 1), H', I3, rfl, q3⟩⟩
    | next => exact False.elim hq'
    | brk => exact False.elim hq'
    | cont => exact False.elim hq'
theorem A8 (M : Mk X.K C f) (F : aO X.prog X.w X.K X.mg X.base CX k f fd ps sp) (hr : aU (k + 1) X.A) (hg : Gl X x) (hm : X.mg x = some (.ref C)) (hb : Binds X.K fd ps ds) (hd : Vals dvs ds) (hx : Passes CX X E)
    (hdb : (x == ("__debug__" : Str)) = false := by decide) : PE X (.Call (.Name x p) [] [] pos) (zz C sp dvs E gL) := by
  intro pins s σ H Q I h
  refine wpAny_Call_Name_kw (iO I hg hm ?_ hdb)
  exact PySem.W.callWith_K0 I.kIn M.kp (yj (us := []) M F hr hb hd hx I .nil h)
end
section
variable {X : Cx} {CX : CXT} {k : Nat} {f C : Addr} {fd : FuncData} {ps ks : List Str} {sp : Sp} {E : XK} {x m : Str} {p pos apos kpos : Pos} {e o : Expr} {es : List Expr} {kws : List Keyword} {te ta : TE} {t tk : TA} {nm : Option Str}
structure BC (K : PySem.W.Frag) (fd : FuncData) (ps ks : List Str) (g : List Value → List Value → List Value) (gV : List V → List V → List V) : Prop where
  to : ∀ (s : Shared) (us ws : List Value), K.In s.heap → (g us ws).length = ps.length → BindsTo s fd ⟨us, ks.zip ws⟩ (ps.zip (g us ws))
  rel : ∀ {vs : List V} {us : List Value} {zs : List V} {ws : List Value}, Vals vs us → Vals zs ws → Vals (gV vs zs) (g us ws)
variable {g : List Value → List Value → List Value} {gV : List V → List V → List V}
end
structure br (N P : List Str) (sc : Scope) : Prop where
  kind : sc.kind = .function
  co : sc.isCoroutine = false
  gen : sc.isGenerator = false
  nd : N.Nodup
  pre : N.take P.length = P
  par : ∀ x ∈ P, sc.names.lookup x = some .local ∨ sc.names.lookup x = some .cell
  nofree : ∀ y ∈ sc.names, y.2 ≠ .free
theorem sL {kindOf : Str → Option NameKind} {x : Str} : ∀ {binds : List (Str × Value)} {m : Str → Option Value}, (∀ v, (x, v) ∉ binds) → bindL kindOf binds m x = m x
  | [], _, _ => rfl
  | (n, v) :: r, m, h => by
    unfold bindL
    rw [sL fun w hw => h w (List.mem_cons_of_mem _ hw)]
    split
    · have : x ≠ n := by rintro rfl; exact h v List.mem_cons_self
      simp [this]
    · rfl
theorem qx {kindOf : Str → Option NameKind} {x : Str} : ∀ {binds : List (Str × Value)} {m : Str → Option Value}, (∀ v, (x, v) ∉ binds) → bindC kindOf binds m x = m x
  | [], _, _ => rfl
  | (n, v) :: r, m, h => by
    unfold bindC
    rw [qx fun w hw => h w (List.mem_cons_of_mem _ hw)]
    split
    · rfl
    · have : x ≠ n := by rintro rfl; exact h v List.mem_cons_self
      simp [this]
theorem qu {kindOf : Str → Option NameKind} {x : Str} {v : Value} : ∀ {P : List Str} {vs : List Value} {i : Nat} {m : Str → Option Value}, P.Nodup → P[i]? = some x → vs[i]? = some v → kindOf x = some .local →
    bindL kindOf (P.zip vs) m x = some v
  | [], _, _, _, _, h, _, _ => by simp at h
  | _ :: _, [], _, _, _, _, h, _ => by simp at h
  | p :: P, w :: vs, 0, m, nd, h1, h2, hk => by
    simp at h1 h2; subst h1; subst h2
    show bindL kindOf ((p, w) :: P.zip vs) m p = _
    unfold bindL
    rw [sL fun v hv => (List.nodup_cons.mp nd).1 (List.of_mem_zip hv).1, if_pos hk]
    simp
  | p :: P, w :: vs, i + 1, m, nd, h1, h2, hk => by
    show bindL kindOf ((p, w) :: P.zip vs) m x = _
    unfold bindL
    exact qu (i := i) (List.nodup_cons.mp nd).2 (by simpa using h1) (by simpa using h2) hk
theorem pL {kindOf : Str → Option NameKind} {x : Str} {v : Value} : ∀ {P : List Str} {vs : List Value} {i : Nat} {m : Str → Option Value}, P.Nodup → P[i]? = some x → vs[i]? = some v → kindOf x ≠ some .local →
    bindC kindOf (P.zip vs) m x = some v
  | [], _, _, _, _, h, _, _ => by simp at h
  | _ :: _, [], _, _, _, _, h, _ => by simp at h
  | p :: P, w :: vs, 0, m, nd, h1, h2, hk => by
    simp at h1 h2; subst h1; subst h2
    show bindC kindOf ((p, w) :: P.zip vs) m p = _
    unfold bindC
    rw [qx fun v hv => (List.nodup_cons.mp nd).1 (List.of_mem_zip hv).1, if_neg hk]
    simp
  | p :: P, w :: vs, i + 1, m, nd, h1, h2, hk => by
    show bindC kindOf ((p, w) :: P.zip vs) m x = _
    unfold bindC
    exact pL (i := i) (List.nodup_cons.mp nd).2 (by simpa using h1) (by simpa using h2) hk
noncomputable def start (N : List Str) (vs : List V) : St := vs.map some ++ List.replicate (N.length - vs.length) none
noncomputable def bJ (CX : CXT) (P : Program) (w : World) (K : PySem.W.Frag) (mg : Str → Option Value) (base : Heap) (N : List Str) (qual : Str) (scope : Scope) (f : Addr) (cd : Value) (A : Around) (outer : List Env) (s : Shared) (H : Hp) (E : XK) : Cx where
  prog := P
  w := w
  K := K
  mg := mg
  base := base
  A := A.deeper (envOfC qual scope s.heap.objs.size f cd)
  N := N
  s₀ := s
  H₀ := H
  env := envOfC qual scope s.heap.objs.size f cd
  outer := outer
  stack := envOfC qual scope s.heap.objs.size f cd :: outer
  ex := []
  calm := true
  fn := fun _ => true
  pn := []
  xe := fun e s' => wpAny (model P w) (A.deeper (envOfC qual scope s.heap.objs.size f cd)) (leaving (envOfC qual scope s.heap.objs.size f cd) e) (fun _ s'' => CX outer H s E e s'') (fun e' s'' => CX outer H s E e' s'') s'
theorem rE {sc : Scope} {n : Nat} {x : Str} (h : sc.names.lookup x = some .cell) : ∃ c, (cellsFrom n sc.names []).lookup x = some c := by
  have q := PySem.W.cellsFrom_some sc.names n [] (.inl h)
  exact Option.isSome_iff_exists.mp q
theorem rW {CX : CXT} {P : Program} {w : World} {K : PySem.W.Frag} {mg : Str → Option Value} {base : Heap} {N ps : List Str} {qual : Str} {scope : Scope} {f : Addr} {cd : Value} {A : Around} {outer : List Env} {s s1 : Shared} {H : Hp} {E : XK} {us : List Value} {vs : List V}
    (S : br N ps scope) (hd : A.handled = none) (e0 : gj P w K mg base A outer s H) (hl : vs.length = ps.length) (r : Vals vs us)
    (x : InCallC s s.heap.objs.size (bindL (envOfC qual scope s.heap.objs.size f cd).kindOf (ps.zip us) fun _ => none) (cellsFrom (s.heap.objs.size + 1) scope.names []) (bindC (envOfC qual scope s.heap.objs.size f cd).kindOf (ps.zip us) fun _ => none) s1) :
    Inv (bJ CX P w K mg base N qual scope f cd A outer s H E) [] (start N vs) H s1 := by
  have hpl : ps.length ≤ N.length := by have := congrArg List.length S.pre; rw [List.length_take] at this; omega
  obtain ⟨h1, tk, rfl, hk⟩ := x.done
  have noA : ∀ b : Addr, b ∉ (bJ CX P w K mg base N qual scope f cd A outer s H E).ex := fun b z => absurd (show b ∈ ([] : List Addr) from z) (by simp)
  refine ⟨⟨e0.mod, S.kind, rfl, rfl, Nat.le_refl _, fun y z c h1 h2 => ?_, fun y hy => ?_, fun y c _ h => ?_, fun _ => hd, Around.frames_deeper e0.frames, .inr ⟨rfl, rfl⟩, fun b z => absurd z (noA b), e0.bs, e0.bsz, fun b _ _ => noA b, fun b z => absurd z (noA b), e0.funs, e0.frf⟩,
    rfl, e0.bare, Un.kept hk, ⟨_, x.toInCall.ns, fun i y v h1 h2 h3 => ?_⟩, fun y c h => ⟨_, x.cell y c h⟩, e0.hok.fresh (Nat.le_refl _), fun y c h => ?_, fun p hp => absurd (show p ∈ ([] : List (Addr × Obj)) from hp) (by simp), e0.hok.kept hk, ?_⟩
  · exact name_of_addr x.apart (PySem.mem_of_lookup h1) (PySem.mem_of_lookup h2)
  · have hy : scope.names.lookup y = some .cell ∨ scope.names.lookup y = some .free := hy
    rcases hy with hy | hy
    · exact rE hy
    · exact absurd rfl (S.nofree _ (PySem.mem_of_lookup hy))
  · exact Nat.le_of_lt (x.above y c (PySem.mem_of_lookup h))
  · have hi : i < vs.length := by
      unfold start at h2
      by_cases hi : i < vs.length
      · exact hi
      · rw [List.getElem?_append_right (by simpa using hi)] at h2
        rw [List.getElem?_replicate] at h2
        split at h2 <;> cases h2
    have ha : vs[i]? = some v := by
      unfold start at h2
      rw [List.getElem?_append_left (by simpa using hi), List.getElem?_map] at h2
      cases e : vs[i]? with
      | none => rw [e] at h2; cases h2
      | some a => rw [e] at h2; cases h2; rfl
    obtain ⟨u, hu, rv⟩ := r.get ha
    have hp : ps[i]? = some y := by
      rw [← S.pre, List.getElem?_take_of_lt (by omega)]; exact h1
    have ndP : ps.Nodup := by rw [← S.pre]; exact S.nd.sublist (List.take_sublist _ _)
    refine ⟨u, rv, ?_⟩
    rcases S.par y (List.mem_of_getElem? hp) with k | k
    · exact .inl ⟨k, qu ndP hp hu k⟩
    · obtain ⟨c, e⟩ := rE (n := s.heap.objs.size + 1) k
      refine .inr ⟨.inl k, c, e, ?_⟩
      have q := x.cell y c e
      rw [pL ndP hp hu (by show scope.names.lookup y ≠ _; rw [k]; decide)] at q
      exact q
  · exact e0.hok.fresh (Nat.le_of_lt (x.above y c (PySem.mem_of_lookup h)))
  · unfold start
    show _ = N.length
    rw [List.length_append, List.length_map, List.length_replicate]
    omega
theorem ql {CX : CXT} {P : Program} {w : World} {K : PySem.W.Frag} {mg : Str → Option Value} {base : Heap} {k : Nat} {f : Addr} {name qual : Str} {params : Arguments} {body : List Stmt} {scope : Scope} {dV kV doc pm cdv ct oc : Value} {an od : Option Addr}
    {osl : Array (Option Value)} {N ps : List Str} {sp : Sp} (lk : K.lookup f = some ⟨oc, od, .func (PySem.W.fnOf name qual params body scope dV kV doc pm an cdv ct), osl⟩) (hcd : PySem.W.codeIn K cdv qual = true) (S : br N ps scope)
    (len : ∀ vs H Q E, sp vs H Q E → vs.length = ps.length)
    (hbody : ∀ (A : Around) (outer : List Env) (s : Shared) (H : Hp) (vs : List V) (Q : VK) (E : XK), aU k (A.deeper (envOfC qual scope s.heap.objs.size f cdv)) → sp vs H Q E →
      ∃ t, PSs (bJ CX P w K mg base N qual scope f cdv A outer s H E) body t ∧ t { nx := fun _ H' => Q .non H', rt := Q } (start N vs) H) :
    aO P w K mg base CX (k + 1) f (PySem.W.fnOf name qual params body scope dV kV doc pm an cdv ct) ps sp := by
  refine ⟨len, fun A outer s H args us vs Q E hr e0 hb r hsp => ?_⟩
  have hl := len _ _ _ _ hsp
  have KX : K.In s.heap := e0.mod.kin.keeps fun b o e => (e0.bs b o e).1
  have lim : s.heap.NoLimit := e0.mod.nolimit.keeps fun b o e => (e0.bs b o e).1
  have hkind : ∀ y ∈ ps.zip us, scope.names.lookup y.1 = some .local ∨ (scope.names.lookup y.1 = some .cell ∧ ((cellsFrom (s.heap.objs.size + 1) scope.names []).lookup y.1).isSome = true) := fun ⟨n, v⟩ hy => by
    rcases S.par n (List.of_mem_zip hy).1 with q | q
    · exact .inl q
    · exact .inr ⟨q, PySem.W.cellsFrom_some _ _ _ (.inl q)⟩
  refine codeAny_call_function hr.depth (KX _ _ lk) rfl S.co S.gen rfl (PySem.W.codeRec_of KX hcd) (hb _ _ _ _ ?_)
  refine wpAny_newFunctionEnv_cells S.kind hkind fun env he s1 x => ?_
  subst he
  refine ⟨lim.keeps x.toInCall.keep, codeAny_func ?_⟩
  obtain ⟨t, ht, hq⟩ := hbody A outer s H vs Q E (hr.deeper _) hsp
  have I : Inv (bJ CX P w K mg base N qual scope f cdv A outer s H E) [] (start N vs) H s1 := rW S hr.hd e0 hl r x
  refine wpAny_mono (ht [] s1 (start N vs) H _ I hq) (fun fl s' hs => ?_) fun e s' hs => hs
  have fin : ∀ {σ' : St} {H' : Hp} {v : V} {u : Value}, Inv (bJ CX P w K mg base N qual scope f cdv A outer s H E) [] σ' H' s' → RelV v u → Q v H' → CE outer P w H s Q u s' :=
    fun {σ' H' v u} J rv q => ⟨v, H', J.os, J.bare, J.base, J.hok, rv, q⟩
  cases fl with
  | ret u =>
    obtain ⟨v, σ', H', J, rv, q⟩ := hs
    exact fin J rv q
  | next =>
    obtain ⟨σ', H', J, q⟩ := hs
    exact fin (v := V.non) (u := Value.none) J rfl q
  | brk =>
    obtain ⟨_, _, _, q⟩ := hs
    exact False.elim q
  | cont =>
    obtain ⟨_, _, _, q⟩ := hs
    exact False.elim q
end L2
namespace L2
open PySem PySem.Spec PyProof.Rows
section
variable {X : Cx} {x : Str} {p pos : Pos} {e : Expr} {es : List Expr} {t : TA} {id T : String} {r : List V → Hp → VK → Prop}
noncomputable def tCB (r : List V → Hp → VK → Prop) (t : TA) : TE := fun σ H Q => t σ H fun vs H1 => r vs H1 Q
theorem nU (hc : el X (.builtin id) r) (hg : Gl X x) (hm : X.mg x = none) (hv : bootBuiltins x = some (.builtin id)) (ha : PA X (e :: es) t) (hn : x ≠ "__name__" := by decide) (hdb : (x == ("__debug__" : Str)) = false := by decide)
    (he : starEach (e :: es) X.env = (false, eval e X.env) :: starEach es X.env := by rfl) (hpl : (backTo pos (starEach es X.env)).any (·.1) = false := by rfl) : PE X (.Call (.Name x p) (e :: es) [] pos) (tCB r t) := by
  intro pins s σ H Q I h
  refine wpAny_Call_Name_kw (mM I hg hm hv ?_ hn hdb)
  exact PyProof.Rows.callWith_builtin1 (thn (ha pos pins s σ H _ I h) fun us s1 ⟨vs, H1, I1, r1, q1⟩ => hc pins s1 σ H1 vs us Q I1 r1 q1) he hpl
theorem Af (hc : el X (.type T) r) (hg : Gl X x) (hm : X.mg x = none) (hv : bootBuiltins x = some (.type T)) (ha : PA X (e :: es) t) (hn : x ≠ "__name__" := by decide) (hdb : (x == ("__debug__" : Str)) = false := by decide)
    (he : starEach (e :: es) X.env = (false, eval e X.env) :: starEach es X.env := by rfl) (hpl : (backTo pos (starEach es X.env)).any (·.1) = false := by rfl) : PE X (.Call (.Name x p) (e :: es) [] pos) (tCB r t) := by
  intro pins s σ H Q I h
  refine wpAny_Call_Name_kw (mM I hg hm hv ?_ hn hdb)
  exact PyProof.Rows.callWith_type1 (thn (ha pos pins s σ H _ I h) fun us s1 ⟨vs, H1, I1, r1, q1⟩ => hc pins s1 σ H1 vs us Q I1 r1 q1) he hpl
end
end L2
namespace HT
open PySem PyProof.Rows
section
open PySem.SeqAt
open PySem.AutoSeq1 (wpAny_loadPart')
open PySem.MeetsSeq PySem.MeetsSeq2 PySem.MeetsSeq3
end
section
variable {prog : Program} {w : World} {A : Around} {E : Value → Shared → Prop} {s : Shared}
theorem wZ {t b : Addr} {vs ws : List Value} {Q : Value → Shared → Prop} (ht : IsTup s.heap t vs.toArray) (hb : IsTup s.heap b ws.toArray) (hv : vs ≠ [])
    (h1 : ws = [] → Q (.ref t) s) (h2 : ws ≠ [] → Q (.ref s.heap.objs.size) { s with heap := s.heap.push { cls := .type "tuple", data := .seq (vs ++ ws).toArray } })
    (hsz : vs.length + ws.length ≤ sizeLine) : wpAny (model prog w) A (binaryOp .Add (.ref t) (.ref b)) Q E s := by
  obtain ⟨⟨cls, dd, data, sl⟩, ho, hc, n, hd⟩ := id ht
  obtain ⟨⟨cls2, dd2, data2, sl2⟩, ho2, hc2, n2, hd2⟩ := id hb
  simp only at hc hd hc2 hd2
  subst hc hd hc2 hd2
  have e : vs.toArray ++ ws.toArray = (vs ++ ws).toArray := by simp
  by_cases hw : ws = []
  · exact concat_meets ⟨_, ho, rfl⟩ ⟨_, ho2, rfl⟩ noFill_tuple_add seq_tuple_add PySem.F.slot_tuple_add PySem.F.entry_tuple_add (PySem.F.args_tuple_add_2 _ _)
      (tuple_addW1 t b vs.toArray ws.toArray n n2 dd dd2 sl sl2 (by simpa using hv) (by simp [hw])) ⟨ho, ho2, h1 hw⟩
  · refine concat_meets ⟨_, ho, rfl⟩ ⟨_, ho2, rfl⟩ noFill_tuple_add seq_tuple_add PySem.F.slot_tuple_add PySem.F.entry_tuple_add (PySem.F.args_tuple_add_2 _ _)
      (tuple_addW2 t b vs.toArray ws.toArray n n2 dd dd2 sl sl2 (by simpa using hv) (by simpa using hw) (by rw [List.size_toArray, List.size_toArray]; exact hsz)) ⟨ho, ho2, ?_⟩
    rw [e]
    exact h2 hw
end
end HT
namespace L2
open PySem PySem.Spec PyProof.Rows
noncomputable abbrev TO := St → Hp → (Option Int → Hp → Prop) → Prop
section
variable {X : Cx} {e : Expr} {te : TE} {lo hi : Option Expr} {tl th : TO} {pos p2 : Pos}
noncomputable def uM (K : PySem.W.Frag) : R2 := fun x y H Q => ∃ a b xs ys, x = .ref a ∧ y = .ref b ∧ SqT K H a xs ∧ SqT K H b ys ∧ xs ≠ [] ∧ xs.length + ys.length ≤ sizeLine ∧
  (ys = [] → Q (.ref a) H) ∧ (ys ≠ [] → ∀ p, H p = none → Q (.ref p) (upd H p (.tup (xs ++ ys))))
theorem Vals.nil_iff {xs : List V} {us : List Value} (r : Vals xs us) : us = [] ↔ xs = [] := by
  cases r with
  | nil => simp
  | cons _ _ => simp
theorem xf : OpR X (binaryOp .Add) (uM X.K) := by
  intro pins s σ H x y v u Q I rx ry h
  obtain ⟨a, b, xs, ys, rfl, rfl, ha, hb, hx, hz, q1, q2⟩ := h
  cases rx
  cases ry
  obtain ⟨its, r1, p1, _⟩ := I.tuple ha
  obtain ⟨its2, r2, p2, _⟩ := I.tuple hb
  refine HT.wZ p1 p2 (fun z => hx (r1.nil_iff.mp z)) (fun z => ⟨.ref a, H, I, rfl, q1 (r2.nil_iff.mp z)⟩) (fun z => ?_) (by rw [← r1.length, ← r2.length]; exact hz)
  refine ⟨.ref s.heap.objs.size, _, I.laid (t' := s.toks) (o := .tup (xs ++ ys)) (fun b ob q => Heap.get?_push_of_some _ q) (Nat.le_refl _) ?_, rfl, q2 (fun w => z (r2.nil_iff.mpr w)) _ (I.hok.fresh (Nat.le_refl _))⟩
  exact ⟨by rw [List.length_append]; exact hz, _, r1.append r2, IsTup.new _ _⟩
end
end L2
namespace L2
open PySem PySem.Spec PyProof.Rows
noncomputable def ixN (n : Nat) (i : Int) : Option Nat := if 0 ≤ i then (if i < n then some i.toNat else none) else if -(n : Int) ≤ i then some (i + n).toNat else none
noncomputable def atI {α : Type} (xs : List α) (i : Int) : Option α := (ixN xs.length i).bind fun j => xs[j]?
theorem uc {n : Nat} {i : Int} {j : Nat} (h : ixN n i = some j) : seqIndex? i n = some j ∧ j < n ∧ -(n : Int) ≤ i ∧ i < n := by
  unfold ixN at h
  by_cases h0 : 0 ≤ i
  · rw [if_pos h0] at h
    by_cases h1 : i < n
    · rw [if_pos h1] at h
      have e : i.toNat = j := Option.some.inj h
      exact ⟨by rw [seqIndex_of h0 h1, e], by omega, by omega, h1⟩
    · rw [if_neg h1] at h; cases h
  · rw [if_neg h0] at h
    by_cases h1 : -(n : Int) ≤ i
    · rw [if_pos h1] at h
      have e : (i + n).toNat = j := Option.some.inj h
      exact ⟨by rw [seqIndex_neg (by omega) h1, e], by omega, h1, by omega⟩
    · rw [if_neg h1] at h; cases h
theorem nz {α : Type} {xs : List α} {i : Int} {v : α} (h : atI xs i = some v) : ∃ j, seqIndex? i xs.length = some j ∧ xs[j]? = some v ∧ j < xs.length ∧ -(xs.length : Int) ≤ i ∧ i < xs.length := by
  unfold atI at h
  cases e : ixN xs.length i with
  | none => rw [e] at h; cases h
  | some j =>
    rw [e] at h
    obtain ⟨h1, h2, h3, h4⟩ := uc e
    exact ⟨j, h1, h, h2, h3, h4⟩
noncomputable def n9 (b : Expr) : Prop := ∀ o i, subscripted b false o i = operate [o, i] (getItem o i)
noncomputable def IxR (X : Cx) (r : R2) : Prop :=
  ∀ (value slice : Expr) (pins : List (Addr × Obj)) (s : Shared) (σ : St) (H : Hp) (x y : V) (v u : Value) (Q : VK), Inv X pins σ H s → RelV x v → RelV y u → r x y H Q →
    subscripted slice false v u = operate [v, u] (getItem v u) → wpAny (model X.prog X.w) X.A (subscriptTail value slice v u) (EP X pins σ Q) X.xe s
noncomputable def MtR (X : Cx) (id : String) (r : V → List V → Hp → VK → Prop) : Prop :=
  ∀ (pins : List (Addr × Obj)) (s : Shared) (σ : St) (H : Hp) (x : V) (xs : List V) (v : Value) (us : List Value) (Q : VK), Inv X pins σ H s → RelV x v → Vals xs us → r x xs H Q →
    wpAny (model X.prog X.w) X.A (call (.builtin id) (v :: us)) (EP X pins σ Q) X.xe s
section
variable {X : Cx} {a b : Expr} {ta tb : TE} {pos : Pos}
theorem IxR.or {r r' : R2} (h : IxR X r) (h' : IxR X r') : IxR X (fun x y H Q => r x y H Q ∨ r' x y H Q) := by
  intro value slice pins s σ H x y v u Q I rx ry q hs
  rcases q with q | q
  · exact h value slice pins s σ H x y v u Q I rx ry q hs
  · exact h' value slice pins s σ H x y v u Q I rx ry q hs
theorem tE {r : R2} (hr : IxR X r) (ha : PE X a ta) (hb : PE X b tb) (hs : n9 b) : PE X (.Subscript a b pos) (tOp r ta tb) := by
  intro pins s σ H Q I h
  exact Subscript_ (rq ha hb I h fun v u s2 x y H2 I2 rx ry q => hr a b pins s2 σ H2 x y v u Q I2 rx ry q (hs _ _))
noncomputable def qt (K : PySem.W.Frag) : R2 := fun x y H Q => ∃ p xs i v, x = .ref p ∧ y = .int i ∧ SqL K H p xs ∧ atI xs i = some v ∧ Q v H
noncomputable def pA (K : PySem.W.Frag) : R2 := fun x y H Q => ∃ p xs i v, x = .ref p ∧ y = .int i ∧ SqT K H p xs ∧ atI xs i = some v ∧ Q v H
noncomputable def sQ : R2 := fun x y H Q => ∃ z i c, x = .str z ∧ y = .int i ∧ z.length ≤ sizeLine ∧ atI z.cps.toList i = some c ∧ Q (.str ⟨#[c]⟩) H
theorem A0 : IxR X (qt X.K) := by
  intro value slice pins s σ H x y v u Q I rx ry h hs
  obtain ⟨p, xs, i, z, rfl, rfl, hq, he, q⟩ := h
  cases rx
  obtain ⟨t, rfl⟩ := ry
  obtain ⟨its, r, pl, hz⟩ := I.list hq
  obtain ⟨j, h1, h2, h3, h4, h5⟩ := nz he
  obtain ⟨w, ew, rw'⟩ := r.get h2
  have hl := r.length
  have hn := je
  have fin : EP X pins σ Q w s := ⟨z, H, I, rw', q⟩
  by_cases h0 : 0 ≤ i
  · have hj : i.toNat = j := by
      rw [seqIndex_of h0 h5] at h1
      exact Option.some.inj h1
    exact item_listR pl.isList h0 (by omega) (by rw [hj]; simpa using ew) fin hs
  · have hj : (i + (its.toArray.size : Int)).toNat = j := by
      rw [seqIndex_neg (by omega) h4] at h1
      rw [List.size_toArray, ← hl]
      exact Option.some.inj h1
    exact subscriptTail_builtinR (x := w) pl.isList.typeIs slot_list_getitem.lookup
      (wpAny_getItem_list_neg (Q := fun r s' => r = w ∧ EP X pins σ Q r s') pl.isList (by omega) (by rw [List.size_toArray] <;> omega) (by omega) (by rw [hj]; simpa using ew) ⟨rfl, fin⟩) hs
theorem zW : IxR X (pA X.K) := by
  intro value slice pins s σ H x y v u Q I rx ry h hs
  obtain ⟨p, xs, i, z, rfl, rfl, hq, he, q⟩ := h
  cases rx
  obtain ⟨t, rfl⟩ := ry
  obtain ⟨its, r, pl, hz⟩ := I.tuple hq
  obtain ⟨j, h1, h2, h3, h4, h5⟩ := nz he
  obtain ⟨w, ew, rw'⟩ := r.get h2
  have hl := r.length
  have hn := je
  have fin : EP X pins σ Q w s := ⟨z, H, I, rw', q⟩
  exact subscriptTail_builtinR (x := w) pl.typeIs slot_tuple_getitem.lookup
    (getItem_tuple (j := j) (Q := fun r s' => r = w ∧ EP X pins σ Q r s') pl (by omega) (by omega) (by rw [List.size_toArray, ← hl]; exact h1) (by simpa using ew) ⟨rfl, fin⟩) hs
theorem AL : IxR X sQ := by
  intro value slice pins s σ H x y v u Q I rx ry h hs
  obtain ⟨z, i, c, rfl, rfl, hz, he, q⟩ := h
  obtain ⟨t, rfl⟩ := rx
  obtain ⟨t', rfl⟩ := ry
  obtain ⟨j, h1, h2, h3, h4, h5⟩ := nz he
  have hl : z.cps.toList.length = z.length := by simp [Str.length]
  rw [hl] at h1 h4 h5
  have hn := je
  exact tail_any (typeIs_str s z t) slot_str_getitem.lookup (getItem_str (c := c) (by
    have e1 : decide (i < -(2 ^ 63 : Int)) = false := decide_eq_false (by omega)
    have e2 : decide (i ≥ 2 ^ 63) = false := decide_eq_false (by omega)
    rw [e1, e2, Bool.or_false]) (by rw [h1]; simpa using h2) ⟨.str ⟨#[c]⟩, H, I.tok _, ⟨_, rfl⟩, q⟩) hs
noncomputable def rIx (K : PySem.W.Frag) : R2 := fun x y H Q => qt K x y H Q ∨ pA K x y H Q ∨ sQ x y H Q
theorem va : IxR X (rIx X.K) := A0.or (zW.or AL)
theorem yB (its : List Value) (n j : Nat) (u : Value) : Obj.mapSeq (·.setIfInBounds j u) { cls := .type "list", data := .seq its.toArray n } = { cls := .type "list", data := .seq (its.set j u).toArray n } := by
  simp [Obj.mapSeq]
theorem Inv.lst {pins : List (Addr × Obj)} {σ : St} {H : Hp} {s : Shared} {p : Addr} {xs : List V} (I : Inv X pins σ H s) (h : H p = some (.lst xs)) :
    ∃ (its : List Value) (n : Nat), Vals xs its ∧ s.heap.get? p = some { cls := .type "list", data := .seq its.toArray n } ∧ xs.length ≤ sizeLine := by
  obtain ⟨z, its, n, r, e⟩ := I.hok p _ h
  exact ⟨its, n, r, e, z⟩
theorem Inv.lstUpd {pins : List (Addr × Obj)} {σ : St} {H : Hp} {s : Shared} {p : Addr} {xs ys : List V} {its its' : List Value} {n n' : Nat} {f : Obj → Obj} (I : Inv X pins σ H s) (h : H p = some (.lst xs))
    (ho : s.heap.get? p = some { cls := .type "list", data := .seq its.toArray n }) (hf : f { cls := .type "list", data := .seq its.toArray n } = { cls := .type "list", data := .seq its'.toArray n' }) (r : Vals ys its') (hz : ys.length ≤ sizeLine) (t : Nat) :
    Inv X pins σ (upd H p (.lst ys)) { s with heap := s.heap.update p f, toks := t } := by
  have e : (s.heap.update p f).get? p = some { cls := .type "list", data := .seq its'.toArray n' } := by
    rw [Heap.get?_update_self f ho (by rw [hf] <;> rfl), hf]
  refine I.write (x := p) (e := p) (by rw [h]; trivial) (.inl rfl) (fun b u hb q => (Heap.get?_update_other _ _ (Ne.symm hb)).trans q) ⟨_, e⟩ ?_
  exact ⟨hz, its', n', r, e⟩
noncomputable def vX : V → V → V → Hp → (Hp → Prop) → Prop := fun o i v H Q => ∃ p xs k j, o = .ref p ∧ i = .int k ∧ H p = some (.lst xs) ∧ ixN xs.length k = some j ∧ Q (upd H p (.lst (xs.set j v)))
theorem set_list : sY X vX := by
  intro pins s σ H o i v ov iv u Q I ro ri rv h
  obtain ⟨p, xs, k, j, rfl, rfl, hp, hj, q⟩ := h
  cases ro
  obtain ⟨t, rfl⟩ := ri
  obtain ⟨its, n, r, ho, hz⟩ := I.lst hp
  obtain ⟨h1, h2, h3, h4⟩ := uc hj
  have hl := r.length
  have hn := je
  have I' : Inv X pins σ (upd H p (.lst (xs.set j v))) { s with heap := s.heap.update p (Obj.mapSeq (·.setIfInBounds j u)) } :=
    I.lstUpd hp ho (yB its n j u) (r.set rv j) (by rw [List.length_set]; exact hz) s.toks
  by_cases h0 : 0 ≤ k
  · have hk : k.toNat = j := by
      rw [seqIndex_of h0 h4] at h1
      exact Option.some.inj h1
    exact PySem.W.ki_setAt ho h0 (by omega) (by rw [List.size_toArray, ← hl]; exact h4) (by rw [hk]; exact ⟨_, I', q⟩)
  · have hk : (k + (its.toArray.size : Int)).toNat = j := by
      rw [seqIndex_neg (by omega) h3] at h1
      rw [List.size_toArray, ← hl]
      exact Option.some.inj h1
    exact PySem.W.ki_setBack ho (by omega) (by rw [List.size_toArray, ← hl]; exact h3) (by omega) (by rw [hk]; exact ⟨_, I', q⟩)
theorem AS : el X (.type "list") (fun xs H Q => ∃ p ys, xs = [.ref p] ∧ (SqL X.K H p ys ∨ SqT X.K H p ys) ∧ ∀ l, H l = none → Q (.ref l) (upd H l (.lst ys))) := by
  intro pins s σ H xs us Q I r h
  obtain ⟨p, ys, rfl, hq, q⟩ := h
  obtain ⟨u, rfl, rx⟩ := vals1 r
  cases rx
  have fin : ∀ (its : List Value), Vals ys its → ys.length ≤ sizeLine → ∀ (h' : Heap) (c' : Nat), (∀ b o', s.heap.get? b = some o' → h'.get? b = some o') →
      h'.get? s.heap.objs.size = some { cls := .type "list", dict := none, data := .seq its.toArray c', slots := #[] } → EP X pins σ Q (.ref s.heap.objs.size) { s with heap := h' } := fun its r' hz h' c' kp e =>
    ⟨.ref s.heap.objs.size, _, I.laid (t' := s.toks) kp (Nat.le_refl _) (show bL X.prog X.w _ h' _ (.lst ys) from ⟨hz, its, c', r', e⟩), rfl, q _ (I.hok.fresh (Nat.le_refl _))⟩
  rcases hq with hq | hq
  · obtain ⟨its, r', pl, hz⟩ := I.list hq
    have hlen := r'.length
    obtain ⟨o, ho, hc, n, hd⟩ := pl.isList
    exact call_list_seq p (.inl rfl) ho hc hd (fun h' c' kp e => fin its r' hz h' c' kp e) (by simp only [List.size_toArray] <;> omega)
  · obtain ⟨its, r', pl, hz⟩ := I.tuple hq
    have hlen := r'.length
    obtain ⟨o, ho, hc, n, hd⟩ := pl
    exact call_list_seq p (.inr rfl) ho hc hd (fun h' c' kp e => fin its r' hz h' c' kp e) (by simp only [List.size_toArray] <;> omega)
theorem v7 : el X (.type "tuple") (fun xs H Q => ∃ p ys, xs = [.ref p] ∧ ((SqL X.K H p ys ∧ ∀ l, H l = none → Q (.ref l) (upd H l (.tup ys))) ∨ (SqT X.K H p ys ∧ Q (.ref p) H))) := by
  intro pins s σ H xs us Q I r h
  obtain ⟨p, ys, rfl, h⟩ := h
  obtain ⟨u, rfl, rx⟩ := vals1 r
  cases rx
  rcases h with ⟨hq, q⟩ | ⟨hq, q⟩
  · obtain ⟨its, r', pl, hz⟩ := I.list hq
    have hlen := r'.length
    refine call_tuple_list pl.isList (fun h' kp => ?_) (by simp only [List.size_toArray] <;> omega)
    have I1 : Inv X pins σ H { s with heap := h' } := I.kept (t' := s.toks) kp
    have I2 : Inv X pins σ (upd H h'.objs.size (.tup ys)) { s with heap := h'.push { cls := .type "tuple", data := .seq its.toArray } } :=
      I1.laid (t' := s.toks) (fun b o e => Heap.get?_push_of_some _ e) (Nat.le_refl _) (show bL X.prog X.w _ _ _ (.tup ys) from ⟨hz, its, r', IsTup.new _ _⟩)
    exact ⟨.ref h'.objs.size, _, I2, rfl, q _ (I1.hok.fresh (Nat.le_refl _))⟩
  · obtain ⟨its, r', pl, hz⟩ := I.tuple hq
    exact call_tuple_same pl ⟨.ref p, H, I, rfl, q⟩
noncomputable def tyV (K : PySem.W.Frag) (T : String) (x : V) (H : Hp) : Prop := match x with
  | .str _ => T = "str"
  | .int _ => T = "int"
  | .ref p => (T = "list" ∧ ∃ xs, SqL K H p xs) ∨ (T = "tuple" ∧ ∃ o, K.lookup p = some o ∧ o.cls = .type "tuple" ∧ o.dict = none) ∨
      (T = "dict" ∧ ((∃ kvs, H p = some (.dK kvs)) ∨ ∃ kvs, H p = some (.dT kvs))) ∨ (T = "set" ∧ ∃ S n, H p = some (.set S n))
  | _ => False
theorem xH {pins : List (Addr × Obj)} {σ : St} {H : Hp} {s : Shared} {T : String} {x : V} {v : Value} (I : Inv X pins σ H s) (r : RelV x v) (ty : tyV X.K T x H) :
    s.TypeIs v T ∧ ∀ a, v = .ref a → ∃ ob, s.heap.get? a = some ob ∧ ob.dict = none := by
  cases x with
  | str z =>
    obtain ⟨t, rfl⟩ := r
    cases (show T = "str" from ty)
    exact ⟨typeIs_str s z t, fun _ e => nomatch e⟩
  | int i =>
    obtain ⟨t, rfl⟩ := r
    cases (show T = "int" from ty)
    exact ⟨typeIs_int s i t, fun _ e => nomatch e⟩
  | ref p =>
    cases r
    rcases ty with ⟨rfl, xs, hq⟩ | ⟨rfl, o, hk, hc, hd⟩ | ⟨rfl, hk⟩ | ⟨rfl, S, n, hk⟩
    · obtain ⟨its, _, pl, _⟩ := I.list hq
      refine ⟨pl.isList.typeIs, fun a e => ?_⟩
      cases e
      obtain ⟨o, n, e, c, hd, _⟩ := pl
      exact ⟨o, e, hd⟩
    · refine ⟨⟨o, I.kIn p o hk, hc⟩, fun a e => ?_⟩
      cases e
      exact ⟨o, I.kIn _ o hk, hd⟩
    · have z : ∃ o, s.heap.get? p = some o ∧ o.ExactDict := by
        rcases hk with ⟨kvs, hk⟩ | ⟨kvs, hk⟩
        · obtain ⟨_, _, _, _, o, _, _, e, ex, _⟩ := I.hok p _ hk
          exact ⟨o, e, ex⟩
        · obtain ⟨_, _, _, _, o, _, _, e, ex, _⟩ := I.hok p _ hk
          exact ⟨o, e, ex⟩
      obtain ⟨o, e, ex⟩ := z
      refine ⟨⟨o, e, ex.1⟩, fun a e2 => ?_⟩
      cases e2
      exact ⟨o, e, ex.2.1⟩
    · obtain ⟨o, _, _, _, e, ex, _⟩ := I.hok p _ hk
      refine ⟨⟨o, e, ex.1⟩, fun a e2 => ?_⟩
      cases e2
      exact ⟨o, e, ex.2.1⟩
  | _ => exact False.elim ty
noncomputable def tBM (K : PySem.W.Frag) (T : String) (r : V → List V → Hp → VK → Prop) (to : TE) (t : TA) : TE := fun σ H Q => to σ H fun x H1 => tyV K T x H1 ∧ t σ H1 fun xs H2 => r x xs H2 Q
variable {o e : Expr} {es : List Expr} {to : TE} {t : TA} {name : Str} {apos cpos : Pos} {T id : String} {r : V → List V → Hp → VK → Prop}
theorem mK (pa : PlainAttrs T) (slot : Slot T name id) (hty : typeOf (.builtin id) = pure (.type "method_descriptor")) (hm : MtR X id r) (ho : PE X o to) (ha : PA X (e :: es) t)
    (hbase : attributeBase o name X.env (eval o X.env) = eval o X.env := by rfl)
    (hfew : ((backTo cpos (starEach (e :: es) X.env)).all (fun x => !x.1) && (backToKw cpos (keywordEach [] X.env)).all (fun x => x.1.isSome)
      && decide ((e :: es).length + ([] : List Keyword).length + (if ([] : List Keyword).isEmpty then 0 else 1) < 30)) = true := by rfl)
    (hline : (apos.endLine == cpos.line) = true := by rfl) (hs : starEach (e :: es) X.env = (false, eval e X.env) :: starEach es X.env := by rfl) (hplain : (backTo cpos (starEach es X.env)).any (·.1) = false := by rfl) :
    PE X (.Call (.Attribute o name apos) (e :: es) [] cpos) (tBM X.K T r to t) := by
  intro pins s σ H Q I h
  refine wpAny_Call_method_late hbase hfew hline rfl (thn (ho pins s σ H _ I h) fun v s1 ⟨x, H1, I1, r1, ty, q1⟩ => ?_)
  obtain ⟨h1, h2⟩ := xH I1 r1 ty
  refine ⟨T, id, pa, slot, hty, h1, h2, ?_⟩
  have hA := ha cpos pins s1 σ H1 _ I1 q1
  rw [hs] at hA ⊢
  refine Calls.callWith_builtin (by show (false || (backTo cpos (starEach es X.env)).any (·.1)) = false; rw [hplain] <;> rfl) (Calls.evalArgs_plain ?_)
  exact thn hA fun us s2 ⟨vs, H2, I2, r2, q2⟩ => hm pins s2 σ H2 x vs v us Q I2 r1 r2 q2
end
end L2
namespace L2
open PySem PySem.Spec PyProof.Rows
noncomputable def MtM (X : Cx) (id : String) (r : V → List V → Hp → VK → Prop) : Prop :=
  ∀ (pins : List (Addr × Obj)) (s : Shared) (σ : St) (H : Hp) (x : V) (xs : List V) (v : Value) (us : List Value) (Q : VK), Inv X pins σ H s → RelV x v → Vals xs us → r x xs H Q →
    wpAny (model X.prog X.w) X.A (call (.builtin id) (v :: us)) (EP X pins σ Q) X.xe s
theorem Vals.one : ∀ {x : V} {us : List Value}, Vals [x] us → ∃ u, us = [u] ∧ RelV x u
  | _, _, .cons r .nil => ⟨_, rfl, r⟩
theorem Vals.rep {xs : List V} {us : List Value} (h : Vals xs us) : ∀ k : Nat, Vals (List.replicate k xs).flatten (List.replicate k us).flatten
  | 0 => .nil
  | k + 1 => by
    rw [List.replicate_succ, List.replicate_succ, List.flatten_cons, List.flatten_cons]
    exact Vals.append h (Vals.rep h k)
theorem foldl_rep (its : List Value) : ∀ (k : Nat) (acc : List Value),
    List.foldl (fun x1 x2 => x1 ++ x2) acc.toArray (List.replicate k its.toArray) = (acc ++ (List.replicate k its).flatten).toArray
  | 0, acc => by simp
  | k + 1, acc => by
    have e : acc.toArray ++ its.toArray = (acc ++ its).toArray := by simp
    have e2 : (acc ++ its) ++ (List.replicate k its).flatten = acc ++ (List.replicate (k + 1) its).flatten := by
      rw [List.replicate_succ, List.flatten_cons, List.append_assoc]
    rw [← e2, ← foldl_rep its k (acc ++ its), ← e, List.replicate_succ, List.foldl_cons]
section
variable {X : Cx} {pins : List (Addr × Obj)} {σ : St} {H : Hp} {s : Shared} {l b : Addr} {xs ys zs : List V}
theorem Inv.lset {its its' : List Value} {n : Nat} {f : Array Value → Array Value} {t' : Nat} (I : Inv X pins σ H s) (hH : H l = some (.lst xs))
    (e : s.heap.get? l = some { cls := .type "list", data := .seq its.toArray n }) (hf : f its.toArray = its'.toArray) (hv : Vals ys its') (hz : ys.length ≤ sizeLine) :
    Inv X pins σ (upd H l (.lst ys)) { s with heap := s.heap.update l (Obj.mapSeq f), toks := t' } := by
  have q := PySem.IsL.update e f
  rw [hf] at q
  refine I.write (x := l) (e := l) (by rw [hH]; exact trivial) (.inl rfl) (fun b' u hb hu => (Heap.get?_update_other s.heap (Obj.mapSeq f) (Ne.symm hb)).trans hu) ⟨_, q⟩ ?_
  exact ⟨hz, its', _, hv, q⟩
theorem Inv.lnew {its : List Value} {t' : Nat} (I : Inv X pins σ H s) (hv : Vals ys its) (hz : ys.length ≤ sizeLine) :
    Inv X pins σ (upd H s.heap.objs.size (.lst ys)) { s with heap := s.heap.push { cls := .type "list", data := .seq its.toArray }, toks := t' } :=
  I.laid (fun _ _ q => Heap.get?_push_of_some _ q) (Nat.le_refl _) ⟨hz, its, 0, hv, Heap.get?_push_size _ rfl⟩
theorem Inv.fresh (I : Inv X pins σ H s) : H s.heap.objs.size = none := I.hok.fresh (Nat.le_refl _)
theorem Inv.lstM (I : Inv X pins σ H s) (hH : H l = some (.lst xs)) : xs.length ≤ sizeLine ∧ ∃ (its : List Value) (n : Nat), Vals xs its ∧ xs.length = its.length ∧ s.heap.get? l = some { cls := .type "list", data := .seq its.toArray n } := by
  obtain ⟨z, its, n, r, e⟩ := I.hok l _ hH
  exact ⟨z, its, n, r, r.length, e⟩
theorem xn {n : Nat} (h : n ≤ sizeLine) : Builtin.List.listTooLong n = false := by
  unfold Builtin.List.listTooLong
  exact decide_eq_false (by omega)
end
section
variable {X : Cx}
noncomputable def we : V → List V → Hp → VK → Prop := fun x vs H Q => ∃ l xs y, x = .ref l ∧ vs = [y] ∧ H l = some (.lst xs) ∧ xs.length < sizeLine ∧ Q .non (upd H l (.lst (xs ++ [y])))
theorem kr : MtM X "list.append" we := by
  intro pins s σ H x vs v us Q I rx rv h
  obtain ⟨l, xs, y, rfl, rfl, hH, hz, q⟩ := h
  cases rx
  obtain ⟨u, rfl, ru⟩ := rv.one
  obtain ⟨z, its, n, r, hl, e⟩ := I.lstM hH
  refine call_meets F.slot_list_append ⟨_, e, rfl⟩ F.entry_list_append (F.args_list_append_2 _ _) (PySem.list_append l its.toArray n u (by rw [List.size_toArray]; omega)) ⟨e, ?_⟩
  refine ⟨.non, _, I.lset (its' := its ++ [u]) hH e (by simp) (r.append (.cons ru .nil)) ?_, rfl, q⟩
  rw [List.length_append, List.length_singleton]
  omega
theorem len_rep {α : Type} (xs : List α) (k : Nat) : (List.replicate k xs).flatten.length = k * xs.length := by
  induction k with
  | zero => simp
  | succ k ih => rw [List.replicate_succ, List.flatten_cons, List.length_append, ih, Nat.succ_mul, Nat.add_comm]
end
section
variable {prog : Program} {w : World} {A : Around} {E : Value → Shared → Prop} {s : Shared}
end
section
variable {X : Cx}
end
end L2
namespace Att
open PySem PySem.W PySem.Calls PyProof.Rows
theorem vg {P : Params} {h : Heap} : ∀ (ns : List Int) (vs : List Value), WellAll P h vs (ns.map WData.int) → IntsAre vs ns := by
  intro ns
  induction ns with
  | nil =>
    intro vs w
    rw [List.map_nil] at w
    cases w
    exact .nil
  | cons n ns ih =>
    intro vs w
    rw [List.map_cons] at w
    cases w with
    | cons a b =>
      cases a
      exact .cons _ _ (ih _ b)
theorem x8 {l : OpenLaw} {n : Nat} (hn : l.most = some n) {P : Params} {h : Heap} {args : List WData} {vals : List Value}
    (hpre : l.row.toRowW.claim.pre args = true) (hwl : WellAll P h vals args) :
    ∃ a vs ns, vals = [Value.ref a] ∧ args = [WData.list (ns.map WData.int)] ∧ h.get? a = some { cls := .type "list", data := .seq vs.toArray } ∧ IntsAre vs ns ∧ ns.length ≤ n := by
  have hsh : WShape.hasAll [] args [.list .int] = true := (pre_splitW hpre).1
  have hc : l.pre.holds [] { args := args } = true := (pre_splitW hpre).2
  obtain ⟨d, r, rfl, h1, h2⟩ := hasAllW_cons hsh
  obtain rfl := hasAllW_nil h2
  obtain ⟨xs, rfl, h3⟩ := hasW_list h1
  obtain ⟨ns, rfl⟩ := items_int h3
  have hlen : ns.length ≤ n := by
    unfold OpenLaw.pre at hc
    have h4 : (WTm.not (.lt (.lit (.int (n : Int))) (.len (.arg 0)))).holds [] { args := [.list (ns.map .int)] } = true := by
      have h4 := (holds_andW hc).1
      rw [hn] at h4
      exact h4
    have h5 := condW_of h4 (w_not (w_lt w_lit (w_len_list (w_arg rfl))))
    rw [List.length_map] at h5
    refine Nat.le_of_not_lt fun q => ?_
    have q' : (n : Int) < ((ns.length : Nat) : Int) := by omega
    first
      | (rw [decide_eq_true q'] at h5; exact absurd h5 (by decide))
      | (simp at h5; omega)
  cases hwl with
  | cons w1 w2 =>
    cases w2
    cases w1 with
    | list ho hall => exact ⟨_, _, ns, rfl, rfl, ho, vg ns _ hall, hlen⟩
theorem yq (l : OpenLaw) (args : List WData) : l.row.toRowW.claim.post args (.bool true) args = true :=
  postW_of (r := l.row.toRowW) (X := (true == true))
    (show WShape.has [] (.bool true) .bool = true by first | rfl | decide | simp [WShape.has, WShape.arms, WShape.armsAll])
    (show (WTm.eq .res (.lit (.bool true))).value [] { args := args, res := some (.bool true), after := args } = some (.bool (true == true)) from w_eq_bool (w_res rfl) w_lit) rfl
theorem z8 {l : OpenLaw} {n : Nat} {q : Program} {loose : List Str} {XP : (Str → Option Value) → Heap → Prop} {YP : World → Heap → Prop} {d : DefRec}
    (hn : l.most = some n) (hdf : d.params.defaults = [])
    (call : ∀ (w : World) (s₀ s₁ : Shared) (mg mb : Str → Option Value) (fa : Addr) (o : Obj) (pm cd doc : Value) (a : Addr) (vs : List Value) (ns : List Int),
      Ground q loose [] XP w s₀ mg mb s₁.heap → YP w s₁.heap →
      s₁.heap.get? fa = some o → o.data = .func (docDef d.name d.params d.body d.scope pm cd doc) → s₁.heap.CodeRec cd d.name → mg d.name = some (.ref fa) →
      s₁.heap.get? a = some { cls := .type "list", data := .seq vs.toArray } → IntsAre vs ns → ns.length ≤ n → s₁.gens = #[] →
      codeAny (model l.prog w) callerA (.call (.ref fa) ⟨[.ref a], []⟩) (fun r s' => r = .ok (.ret (.bool true)) ∧ OldK s₁.heap s'.heap ∧ s'.os = s₁.os ∧ AllBare s'.gens) s₁) :
    WalkO q loose XP YP l.row.toRowW d [] (fun f vs => PySem.call f vs) := by
  intro w s₀ s₁ mg mb G Y fa o pm cd doc dV kV ho hd hcd hD hmg hg args vals as hpre hlay hrd hwl hlo
  obtain rfl : dV = .none := Dflts.none hD hdf
  obtain rfl : kV = .none := Dflts.noKw hD
  obtain ⟨a, vs, ns, rfl, rfl, hobj, hints, hlen⟩ := x8 hn hpre hwl
  refine enter_call (codeAny_mono (call w s₀ s₁ mg mb fa o pm cd doc a vs ns G Y ho (fd_plain hd) hcd hmg hobj hints hlen hg) fun r s' hq => ?_)
  obtain ⟨rfl, h2, h3, h4⟩ := hq
  exact ⟨.inl ⟨.bool true, .bool true, [], rfl, fun _ => rfl, .bool true, yq l _, fun _ => ⟨List.Pairwise.nil, fun _ hm => (nomatch hm)⟩⟩, h2, h3, h4⟩
section
variable {prog : Program} {w : World} {A : Around} {E : Value → Shared → Prop} {s : Shared} {K : Frag}
end
end Att
namespace L2
open PySem PySem.Spec PyProof.Rows
theorem qp : ∀ {vs : List Value} {ns : List Int}, IntsAre vs ns → Vals (ns.map V.int) vs
  | _, _, .nil => .nil
  | _, _, .cons n t h => .cons ⟨t, rfl⟩ (qp h)
noncomputable def lK (H : Hp) : Prop := ∀ b, H b = none ∨ ∃ o xs, H b = some (.frz o (.lst xs))
theorem Al {P : Program} {w : World} {K : PySem.W.Frag} {mg mb : Str → Option Value} {CX : CXT} {k : Nat} {fa a : Addr} {fd : FuncData} {x : Str} {sp : Sp} {s₁ : Shared} {vs : List Value} {ns : List Int}
    (KX : K.In s₁.heap) (hns : s₁.heap.Ns mainGlobals mg) (hb : s₁.heap.Ns builtinsNs mb) (hbb : ∀ x : Str, x ≠ "__name__" → mb x = bootBuiltins x) (hlim : s₁.heap.NoLimit) (hg : s₁.gens = #[])
    (ha : s₁.heap.get? a = some { cls := .type "list", data := .seq vs.toArray }) (hi : IntsAre vs ns) (hl : ns.length ≤ sizeLine) (hr : aU k callerA)
    (F : ∀ base : Heap, K.In base → base.Ns mainGlobals mg → aO P w K mg base CX k fa fd [x] sp) (hbind : ∀ (s : Shared) (u : Value), BindsTo s fd ⟨[u], []⟩ [(x, u)])
    (hsp : ∀ H : Hp, lK H → SqL K H a (ns.map V.int) → sp [.ref a] H (fun v _ => v = .bl true) fun _ _ _ => False)
    (hCX : ∀ H e s', CX [] H s₁ (fun _ _ _ => False) e s' → False) :
    codeAny (model P w) callerA (.call (.ref fa) ⟨[.ref a], []⟩) (fun r s' => r = .ok (.ret (.bool true)) ∧ OldK s₁.heap s'.heap ∧ s'.os = s₁.os ∧ AllBare s'.gens) s₁ := by
  have rv := qp hi
  have lenV := hi.length
  have core : ∀ H : Hp, lK H → SqL K H a (ns.map V.int) → HOk P w H s₁.heap → (∀ b, H b ≠ none → b = a) → (H a ≠ none → K.lookup a = none) →
      codeAny (model P w) callerA (.call (.ref fa) ⟨[.ref a], []⟩) (fun r s' => r = .ok (.ret (.bool true)) ∧ OldK s₁.heap s'.heap ∧ s'.os = s₁.os ∧ AllBare s'.gens) s₁ := by
    intro H hO hS hok hA hK
    have base_of : ∀ {b : Addr} {o : Obj}, s₁.heap.get? b = some o → H b = none → (gk s₁.heap H).get? b = some o := fun e n => Ad e n
    have noA : ∀ {b : Addr} {o : Obj} {es : Array DictEntry} {ep : Nat}, s₁.heap.get? b = some o → o.data = .dict es ep → H b = none := fun {b o es ep} e d => by
      cases q : H b with
      | none => rfl
      | some u =>
        have e' : b = a := hA b (by rw [q]; simp)
        subst e'
        rw [ha] at e; cases e
        have d' : Data.seq vs.toArray _ = Data.dict es ep := d
        cases d'
    have nsK : ∀ {b : Addr} {m : Str → Option Value}, s₁.heap.Ns b m → (gk s₁.heap H).Ns b m := fun {b m} ⟨o, es, ep, e, d, r⟩ => ⟨o, es, ep, base_of e (noA e d), d, r⟩
    have hKb : K.In (gk s₁.heap H) := fun b o e => base_of (KX b o e) (by
      cases q : H b with
      | none => rfl
      | some u =>
        have e' : b = a := hA b (by rw [q]; simp)
        subst e'
        rw [hK (by rw [q]; simp)] at e; cases e)
    have hM : Mod K mg (gk s₁.heap H) := ⟨hKb, nsK hns, ⟨mb, nsK hb, hbb⟩, let ⟨mc, h1, h2⟩ := hlim; ⟨mc, nsK h1, h2⟩⟩
    have e0 : gj P w K mg (gk s₁.heap H) callerA [] s₁ H := ⟨rfl, hM, fun b o e => Ap e, Nat.le_of_eq (xy _ _), trivial, fun b hb => absurd (show b ∈ ([] : List Addr) from hb) (by simp), hok, .of_eq hg⟩
    refine codeAny_mono ((F _ hKb (nsK hns)).run callerA [] s₁ H ⟨[.ref a], []⟩ [.ref a] [.ref a] _ _ hr e0 (hbind s₁ (.ref a)) (.cons rfl .nil) (hsp H hO hS)) fun r s' h => ?_
    cases r with
    | error e => exact (hCX H e s' h).elim
    | ok fl =>
      cases fl with
      | next => exact False.elim h
      | brk => exact False.elim h
      | cont => exact False.elim h
      | ret u =>
        obtain ⟨v, H', os, bare, un, hok', r', q⟩ := h
        have q' : v = .bl true := q
        subst q'
        obtain rfl : u = Value.bool true := r'
        refine ⟨rfl, OldK.of_keep fun b o e => ?_, os, bare⟩
        cases q : H b with
        | none => exact un.keep b o e q (by intro z; exact absurd (show b ∈ ([] : List Addr) from z) (by simp)) (by simp)
        | some u =>
          rcases hO b with z | ⟨ob, xs, z⟩
          · rw [q] at z; cases z
          · have z2 := un.frzs b ob _ z
            obtain ⟨e1, _⟩ := hok b _ z
            obtain ⟨e2, _⟩ := hok' b _ z2
            rw [e] at e1; cases e1
            exact e2
  cases hk : K.lookup a with
  | some o =>
    have e := KX a o hk
    rw [ha] at e
    cases e
    refine core (fun _ => none) (fun _ => .inl rfl) (.inr ⟨_, vs.toArray, _, hk, rfl, rfl, rfl, by rw [List.size_toArray, lenV]; exact hl, by simpa using rv⟩) (fun b u z => by have z' : (none : Option HO) = some u := z; cases z') (fun b z => absurd rfl z) fun z => absurd rfl z
  | none =>
    refine core (fun b => if b = a then some (.frz { cls := .type "list", data := .seq vs.toArray } (.lst (ns.map V.int))) else none) (fun b => ?_) (.inl (.inr ⟨{ cls := .type "list", data := .seq vs.toArray }, if_pos rfl⟩)) (fun b u z => ?_) (fun b z => ?_) fun _ => hk
    · by_cases hb : b = a
      · exact .inr ⟨_, _, if_pos hb⟩
      · exact .inl (if_neg hb)
    · by_cases hb : b = a
      · have z' := (if_pos hb).symm.trans z
        cases z'
        subst hb
        exact ⟨ha, by rw [List.length_map]; exact hl, vs, _, rv, ha⟩
      · have z' := (if_neg hb).symm.trans z
        cases z'
    · by_cases hb : b = a
      · exact hb
      · exact absurd (if_neg hb) z
end L2
namespace L2
open PySem PySem.Spec PyProof.Rows
theorem xR {l : PySem.W.OpenLaw} {n k : Nat} {q : Program} {loose : List Str} {XP : (Str → Option Value) → Heap → Prop} {YP : World → Heap → Prop} {d : DefRec} {K : Params → PySem.W.Frag} {CX : World → CXT} {sp : World → Sp} {x : Str}
    (hn : l.most = some n) (hn2 : n ≤ sizeLine) (hdf : d.params.defaults = []) (hr : aU k callerA)
    (hY : ∀ (w : World) (h : Heap), YP w h → (K w.params).In h)
    (F : ∀ (w : World) (mg : Str → Option Value) (fa : Addr) (h : Heap), (K w.params).In h → h.Ns mainGlobals mg → mg d.name = some (.ref fa) →
      ∃ fd : FuncData, (∀ (s : Shared) (u : Value), BindsTo s fd ⟨[u], []⟩ [(x, u)]) ∧
        ∀ base : Heap, (K w.params).In base → base.Ns mainGlobals mg → aO l.prog w (K w.params) mg base (CX w) k fa fd [x] (sp w))
    (hsp : ∀ (w : World) (H : Hp) (a : Addr) (ns : List Int), ns.length ≤ n → lK H → SqL (K w.params) H a (ns.map V.int) → sp w [.ref a] H (fun v _ => v = .bl true) fun _ _ _ => False)
    (hCX : ∀ (w : World) (H : Hp) (s : Shared) (e : Value) (s' : Shared), CX w [] H s (fun _ _ _ => False) e s' → False) :
    PySem.W.WalkO q loose XP YP l.row.toRowW d [] (fun f vs => PySem.call f vs) := by
  refine Att.z8 hn hdf fun w s₀ s₁ mg mb fa o pm cd doc a vs ns G Y ho hd hcd hmg hobj hints hlen hg => ?_
  have KX := hY w _ Y
  obtain ⟨fd, hb, hF⟩ := F w mg fa _ KX G.T.g hmg
  exact Al KX G.T.g G.T.b G.T.builtins G.T.nolimit hg hobj hints (Nat.le_trans hlen hn2) hr hF hb (fun H hO hS => hsp w H a ns hlen hO hS) fun H e s' => hCX w H s₁ e s'
end L2
namespace L2
open PySem PySem.Spec PyProof.Rows
noncomputable def inClass (s : Stmt) (j : Nat) : Stmt := match s with
  | .ClassDef _ _ _ body _ _ _ _ _ _ _ => body.getD j (.Pass ⟨0, 0, 0, 0⟩)
  | _ => .Pass ⟨0, 0, 0, 0⟩
noncomputable def bx (s : Stmt) : Arguments := match s with
  | .FunctionDef _ a _ _ _ _ _ _ _ _ => a
  | _ => { posonlyargs := [], args := [], vararg := none, kwonlyargs := [], kw_defaults := [], kwarg := none, defaults := [] }
noncomputable def bo (s : Stmt) : List Stmt := match s with
  | .FunctionDef _ _ b _ _ _ _ _ _ _ => b
  | _ => []
noncomputable def aH (s : Stmt) : Scope := match s with
  | .FunctionDef _ _ _ _ _ _ sc _ _ _ => sc
  | _ => { kind := .function, names := [], isGenerator := false, isCoroutine := false }
noncomputable abbrev CX0 : CXT := fun _ _ _ _ _ _ => False
noncomputable abbrev E0 : XK := fun _ _ _ => False
theorem gz {X : Cx} : Passes CX0 X E0 := fun _ _ _ _ _ _ _ h => h.elim
structure Fun (K : PySem.W.Frag) (x qual : Str) (st : Stmt) (f : Addr) (fd : FuncData) : Prop where
  ex : ∃ (oc : Value) (od : Option Addr) (kV doc pm : Value) (an : Option Addr) (cdv ct : Value) (osl : Array (Option Value)),
    fd = PySem.W.fnOf x qual (bx st) (bo st) (aH st) .none kV doc pm an cdv ct ∧ K.lookup f = some ⟨oc, od, .func fd, osl⟩ ∧ PySem.W.codeIn K cdv qual = true
  kp : PySem.W.keepIn K (.ref f) = true
section
variable {P : Program} {w : World} {K : PySem.W.Frag} {mg : Str → Option Value} {base : Heap}
theorem Fun.ok {x qual : Str} {st : Stmt} {f : Addr} {fd : FuncData} {N ps : List Str} {k : Nat} {sp : Sp} (F : Fun K x qual st f fd) (S : br N ps (aH st)) (len : ∀ vs H Q E, sp vs H Q E → vs.length = ps.length)
    (hbody : ∀ (cdv : Value) (A : Around) (outer : List Env) (s : Shared) (H : Hp) (vs : List V) (Q : VK) (E : XK), aU k (A.deeper (envOfC qual (aH st) s.heap.objs.size f cdv)) → sp vs H Q E →
      ∃ t, PSs (bJ CX0 P w K mg base N qual (aH st) f cdv A outer s H E).nox (bo st) t ∧ t { nx := fun _ H' => Q .non H', rt := Q } (start N vs) H) : aO P w K mg base CX0 (k + 1) f fd ps sp := by
  obtain ⟨oc, od, kV, doc, pm, an, cdv, ct, osl, rfl, lk, hcd⟩ := F.ex
  refine ql lk hcd S len fun A outer s H vs Q E hr hsp => ?_
  obtain ⟨t, h, q⟩ := hbody cdv A outer s H vs Q E hr hsp
  exact ⟨t, h.nox, q⟩
theorem Fun.binds {x qual : Str} {st : Stmt} {f : Addr} {fd : FuncData} {ps : List Str} (F : Fun K x qual st f fd)
    (h : ∀ (kV doc pm : Value) (an : Option Addr) (cdv ct : Value) (us : List Value), us.length = ps.length → bindArgs (PySem.W.fnOf x qual (bx st) (bo st) (aH st) .none kV doc pm an cdv ct) ⟨us, []⟩ = pure (ps.zip us)) : Binds K fd ps [] := by
  obtain ⟨oc, od, kV, doc, pm, an, cdv, ct, osl, rfl, lk, hcd⟩ := F.ex
  exact .all (h kV doc pm an cdv ct)
theorem bM {x qual : Str} {st : Stmt} {f : Addr} {oc : Value} {od an : Option Addr} {osl : Array (Option Value)} {kV doc pm cdv ct : Value} (l : K.lookup f = some ⟨oc, od, .func (PySem.W.fnOf x qual (bx st) (bo st) (aH st) .none kV doc pm an cdv ct), osl⟩)
    (c : PySem.W.codeIn K cdv qual = true) (k : PySem.W.keepIn K (.ref f) = true) : Fun K x qual st f (PySem.W.fnOf x qual (bx st) (bo st) (aH st) .none kV doc pm an cdv ct) := ⟨⟨oc, od, kV, doc, pm, an, cdv, ct, osl, rfl, l, c⟩, k⟩
end
theorem kP {A : Around} {k : Nat} (hr : aU k A) : A.units + 1 < cLine := Nat.lt_of_le_of_lt (Nat.add_le_add_left (by decide : 1 ≤ 64) _) hr.units
section
variable {X : Cx}
theorem pv (i : Nat) {x : Str} {pos : Pos} (hN : X.N[i]? = some x := by rfl) (hv : Vis X.env.scope x := by first | exact Or.inl rfl | exact Or.inr (Or.inl rfl) | exact Or.inr (Or.inr rfl)) (hd : (x == ("__debug__" : Str)) = false := by decide)
    (hcd : (x == ("__classdict__" : Str)) = false := by decide) : PE X (.Name x pos) (eV i) := xN hN hv hd hcd
end
theorem j8 {A B : Prop} (h : B) : if false = true then A else B := by
  rw [if_neg Bool.false_ne_true]
  exact h
theorem ke {A B : Prop} (h : A) : if true = true then A else B := by
  rw [if_pos rfl]
  exact h
noncomputable def jd (H H' : Hp) : Prop := ∀ b o, H b = some o → H' b = some o
theorem jd.trans {H H1 H2 : Hp} (a : jd H H1) (b : jd H1 H2) : jd H H2 := fun c o h => b c o (a c o h)
theorem jd.free {H H' : Hp} (e : jd H H') {l : Addr} (h : H' l = Option.none) : H l = Option.none := by
  cases q : H l with
  | none => rfl
  | some o =>
    rw [e l o q] at h
    cases h
end L2
set_option maxHeartbeats 4000000
namespace L2
open PySem PySem.Spec PyProof.Rows
noncomputable def b8 (env : Env) : List (Str × NameKind) → List (Str × Addr) → List (Str × Addr)
  | [], acc => acc
  | (n, k) :: r, acc => if (k == NameKind.free) = true then (match env.cells.lookup n with | some a => b8 env r ((n, a) :: acc) | none => b8 env r acc) else b8 env r acc
theorem ly {env : Env} : ∀ {names : List (Str × NameKind)} {acc : List (Str × Addr)}, (∀ x c, acc.lookup x = some c → env.cells.lookup x = some c) →
    ∀ x c, (b8 env names acc).lookup x = some c → env.cells.lookup x = some c
  | [], _, h => h
  | (n, k) :: r, acc, h => by
    intro x c e
    unfold b8 at e
    split at e
    · split at e
      · rename_i a ha
        refine ly (names := r) (acc := (n, a) :: acc) (fun y d q => ?_) x c e
        rw [List.lookup_cons] at q
        split at q
        · rename_i hy
          have : y = n := by simpa using hy
          subst this
          rw [ha]; exact q
        · exact h y d q
      · exact ly h x c e
    · exact ly h x c e
theorem lG {env : Env} : ∀ {names : List (Str × NameKind)} {acc : List (Str × Addr)} {x : Str}, (∃ c, acc.lookup x = some c) → ∃ c, (b8 env names acc).lookup x = some c
  | [], _, _, h => h
  | (n, k) :: r, acc, x, h => by
    unfold b8
    split
    · split
      · rename_i a ha
        refine lG ?_
        rw [List.lookup_cons]
        split
        · exact ⟨_, rfl⟩
        · exact h
      · exact lG h
    · exact lG h
theorem kg {env : Env} : ∀ {names : List (Str × NameKind)} {acc : List (Str × Addr)} {x : Str}, (x, NameKind.free) ∈ names → (∃ c, env.cells.lookup x = some c) → ∃ c, (b8 env names acc).lookup x = some c
  | (n, k) :: r, acc, x, hm, hc => by
    rcases List.mem_cons.mp hm with e | e
    · cases e
      obtain ⟨c, hc⟩ := hc
      unfold b8
      rw [if_pos (by rfl), hc]
      exact lG ⟨c, by rw [List.lookup_cons]; simp⟩
    · unfold b8
      split
      · split
        · exact kg e hc
        · exact kg e hc
      · exact kg e hc
theorem xg {env : Env} : ∀ (names : List (Str × NameKind)) (acc : List (Str × Addr)), (∀ x ∈ names, x.2 = .free → ∃ c, env.cells.lookup x.1 = some c) →
    (forIn names acc (fun (x : Str × NameKind) (r : List (Str × Addr)) => (match x with
      | (name, kind) => if (kind == NameKind.free) = true then do
          let a ← cellOf env name
          pure (ForInStep.yield ((name, a) :: r))
        else pure (ForInStep.yield r))) : Sem (List (Str × Addr))) = pure (b8 env names acc) := by
  intro names
  induction names with
  | nil => intro acc _; rfl
  | cons y r ih =>
    intro acc h
    obtain ⟨n, k⟩ := y
    have ih' := fun acc => ih acc fun x hx => h x (List.mem_cons_of_mem _ hx)
    rw [List.forIn_cons]
    unfold b8
    by_cases hk : (k == NameKind.free) = true
    · have hk' : k = .free := by simpa using hk
      obtain ⟨c, hc⟩ := h (n, k) List.mem_cons_self hk'
      simp only [hk, if_true, cellOf, hc]
      exact ih' _
    · simp only [hk, Bool.false_eq_true, if_false]
      exact ih' _
theorem qe {scope : Scope} {env : Env} (h : ∀ x ∈ scope.names, x.2 = .free → ∃ c, env.cells.lookup x.1 = some c) : closureFor scope env = pure (b8 env scope.names []) := by
  have e := xg scope.names [] h
  unfold closureFor
  dsimp only
  rw [e]
  rfl
structure BA where
  fp : List Addr
  pins : List (Addr × Obj)
  s : Shared
  H : Hp
  C : Addr
noncomputable def blk (X : Cx) (N : List Str) (sc : Scope) (b : BA) : Cx :=
  { prog := X.prog, w := X.w, K := X.K, mg := X.mg, base := X.base, A := X.A, N := N, s₀ := b.s, H₀ := b.H, env := compEnvC sc (b8 X.env sc.names []) b.C X.env,
    outer := X.stack, stack := X.stack, ex := b.fp, fn := fun _ => false, calm := X.calm, pn := X.pn ++ b.pins, xe := fun _ _ => False }
structure Blk (X : Cx) (N : List Str) (sel : List (Option Nat)) (sc : Scope) : Prop where
  kind : sc.kind = .function
  nocell : (sc.names.all fun y => y.2 != .cell) = true
  free : (sc.names.all fun y => y.2 != .free || (X.env.kindOf y.1 == some .cell || X.env.kindOf y.1 == some .free)) = true
  names : (sc.names.all fun y => y.2 != .local || sc.names.lookup y.1 == some .local) = true
  len : sel.length = N.length
  sel : ((N.zip sel).all fun y => match y.2 with | none => true | some j => (X.N[j]? == some y.1) && (sc.names.lookup y.1 == some NameKind.free)) = true
noncomputable def eg (σ : St) (sel : List (Option Nat)) : St := sel.map fun o => match o with | none => none | some j => (σ[j]?).join
theorem mh {env : Env} {k : NameKind} : ∀ {names : List (Str × NameKind)} {x : Str},
    (names.map fun (n, k) => if (k == NameKind.free && env.scope.kind == .function && env.kindOf n == some .cell) then (n, NameKind.cell) else (n, k)).lookup x = some k →
    ∃ k', names.lookup x = some k' ∧ (k' = k ∨ (k' = .free ∧ k = .cell))
  | [], _, h => by simp at h
  | (n, k0) :: r, x, h => by
    have ih := @mh env k r x
    have h : List.lookup x ((if (k0 == NameKind.free && env.scope.kind == .function && env.kindOf n == some .cell) = true then (n, NameKind.cell) else (n, k0)) :: _) = some k := h
    by_cases hc : (k0 == NameKind.free && env.scope.kind == .function && env.kindOf n == some .cell) = true
    · rw [if_pos hc, List.lookup_cons] at h
      rw [List.lookup_cons]
      cases hx : x == n with
      | true =>
        rw [hx] at h
        simp only at h
        cases h
        have : k0 = .free := by
          simp only [Bool.and_eq_true, beq_iff_eq] at hc
          exact hc.1.1
        subst this
        exact ⟨_, rfl, .inr ⟨rfl, rfl⟩⟩
      | false =>
        rw [hx] at h
        exact ih h
    · rw [if_neg hc, List.lookup_cons] at h
      rw [List.lookup_cons]
      cases hx : x == n with
      | true =>
        rw [hx] at h
        simp only at h
        cases h
        exact ⟨_, rfl, .inl rfl⟩
      | false =>
        rw [hx] at h
        exact ih h
section
variable {X : Cx} {pins : List (Addr × Obj)} {σ : St} {H : Hp} {s : Shared} {N : List Str} {sel : List (Option Nat)} {sc : Scope} {fp : List Addr}
theorem Blk.freeAt (B : Blk X N sel sc) : ∀ y ∈ sc.names, y.2 = .free → (X.env.kindOf y.1 = some .cell ∨ X.env.kindOf y.1 = some .free) := fun y hy hf => by
  have h := List.all_eq_true.mp B.free y hy
  rw [hf] at h
  simpa using h
theorem Blk.has (B : Blk X N sel sc) (ok : X.Ok) : ∀ y ∈ sc.names, y.2 = .free → ∃ c, X.env.cells.lookup y.1 = some c := fun y hy hf => ok.has _ (B.freeAt y hy hf)
theorem Blk.sub (_ : Blk X N sel sc) : ∀ x c, (b8 X.env sc.names []).lookup x = some c → X.env.cells.lookup x = some c := ly fun _ _ e => by simp at e
theorem mem_lookup {names : List (Str × NameKind)} {x : Str} {k : NameKind} (h : names.lookup x = some k) : (x, k) ∈ names := PySem.mem_of_lookup h
theorem xC (B : Blk X N sel sc) (I : Inv X pins σ H s) (hfp : ∀ x ∈ fp, eN X pins H x) (hobj : ∀ x ∈ fp, ∃ o, s.heap.get? x = some o) {h' : Heap} {tk : Nat} {d : Obj}
    (hn : h'.Ns s.heap.objs.size fun _ => none) (sb : Heap.SameBut s.heap.objs.size (s.heap.push d) h') :
    Inv (blk X N sc ⟨fp, pins, s, H, s.heap.objs.size⟩) [] (eg σ sel) H { s with heap := h', toks := tk } := by
  have kept : ∀ b o, s.heap.get? b = some o → h'.get? b = some o := fun b o e => (sb.2 b (Nat.ne_of_lt (Heap.lt_size e))).trans (Heap.get?_push_of_some _ e)
  have hasb : ∀ x, ((relabel sc X.env).names.lookup x = some .cell ∨ (relabel sc X.env).names.lookup x = some .free) → (x, NameKind.free) ∈ sc.names := fun x hx => by
    have nocell : ∀ z, sc.names.lookup z ≠ some .cell := fun z e => by
      have := List.all_eq_true.mp B.nocell _ (mem_lookup e)
      simp at this
    rcases hx with hx | hx
    · obtain ⟨k', e, q | ⟨q, _⟩⟩ := mh hx
      · subst q; exact absurd e (nocell x)
      · subst q; exact mem_lookup e
    · obtain ⟨k', e, q | ⟨_, q⟩⟩ := mh hx
      · subst q; exact mem_lookup e
      · cases q
  refine ⟨⟨I.ok.mod, B.kind, I.ok.glob, I.ok.blt, Nat.le_refl _, fun x y c h1 h2 => I.ok.inj x y c (B.sub x c h1) (B.sub y c h2), fun x hx => ?_, fun x c hf _ => (by cases hf), I.ok.hd, I.ok.frames, .inl rfl, fun b hb => ?_, I.bs, Nat.le_trans I.ok.bsz I.sz, fun b o e hb => ?_, fun b hb hs => ?_, I.stack, I.stkFree⟩,
    rfl, I.bare, Un.kept kept, ⟨_, hn, fun i x v h1 h2 h3 => ?_⟩, fun x c e => ?_, I.fresh, fun x c e => I.freeC x c (B.sub x c e), fun p hp => ?_, I.hok.kept kept, ?_⟩
  · have hm := hasb x hx
    exact kg hm (B.has I.ok _ hm rfl)
  · obtain ⟨o, e⟩ := hobj b hb
    exact ⟨Nat.ne_of_lt (Heap.lt_size e), fun x c hc => (hfp b hb).2.2.2.2.1 x c (B.sub x c hc)⟩
  · rcases (hfp b hb).2.2.2.1 with z | z
    · exact I.ok.noex b o e z
    · exact absurd (Nat.lt_of_lt_of_le (Heap.lt_size (I.ok.bs b o e).1) z) (Nat.lt_irrefl _)
  · have := I.stkSub b hs
    rcases List.mem_cons.mp this with z | z
    · exact (hfp b hb).2.1 z
    · exact (hfp b hb).2.2.1 z
  ·
    have h1 : N[i]? = some x := h1
    unfold eg at h2
    rw [List.getElem?_map] at h2
    cases hs : sel[i]? with
    | none => rw [hs] at h2; cases h2
    | some o =>
      rw [hs] at h2
      cases o with
      | none => cases h2
      | some j =>
        have h2 : (σ[j]?).join = some v := Option.some.inj h2
        have hz : (x, some j) ∈ N.zip sel := by
          rw [List.mem_iff_getElem?]
          exact ⟨i, by rw [List.getElem?_zip_eq_some]; exact ⟨h1, hs⟩⟩
        have hq := List.all_eq_true.mp B.sel _ hz
        simp only [Bool.and_eq_true, beq_iff_eq] at hq
        obtain ⟨hj, hlk⟩ := hq
        have hm := mem_lookup hlk
        have hσ : σ[j]? = some (some v) := by
          cases e : σ[j]? with
          | none => rw [e] at h2; cases h2
          | some a => rw [e] at h2; cases a with
            | none => cases h2
            | some a => exact congrArg some h2
        have hk := B.freeAt _ hm rfl
        obtain ⟨m, _, hl⟩ := I.loc
        obtain ⟨u, r, lk⟩ := hl j x v hj hσ (hk.elim (fun e => .inr (.inl e)) fun e => .inr (.inr e))
        refine ⟨u, r, .inr ⟨?_, ?_⟩⟩
        · have h3 : (relabel sc X.env).names.lookup x = some .local ∨ (relabel sc X.env).names.lookup x = some .cell ∨ (relabel sc X.env).names.lookup x = some .free := h3
          rcases h3 with h3 | h3 | h3
          · obtain ⟨k', e, q | ⟨_, q⟩⟩ := mh h3
            · subst q
              rw [hlk] at e
              cases e
            · cases q
          · exact .inl h3
          · exact .inr h3
        · rcases lk with ⟨k, _⟩ | ⟨_, c, e, z⟩
          · rcases hk with q | q <;> (rw [q] at k; cases k)
          · obtain ⟨c', e'⟩ := kg (acc := []) hm ⟨c, e⟩
            have : c' = c := Option.some.inj ((B.sub x c' e').symm.trans e)
            subst this
            exact ⟨c', e', z.keeps kept⟩
  · obtain ⟨v, z⟩ := I.cell x c (B.sub x c e)
    exact ⟨v, z.keeps kept⟩
  · have hp : p ∈ X.pn ++ pins := by simpa [blk] using hp
    obtain ⟨e, n, ne, nf, d⟩ := I.pin p hp
    refine ⟨kept _ _ e, n, Nat.ne_of_lt (Heap.lt_size e), fun z => ?_, d⟩
    rcases List.mem_cons.mp (I.stkSub _ z) with q | q
    · exact ne q
    · exact nf q
  · unfold eg
    rw [List.length_map]
    exact B.len
theorem vS {b : BA} {σ' : St} {H5 : Hp} {s5 : Shared} {h' : Heap} (I3 : Inv X b.pins σ b.H b.s) (hfp : ∀ x ∈ b.fp, eN X b.pins b.H x) (I5 : Inv (blk X N sc b) [] σ' H5 s5)
    (sb : Heap.SameBut b.C s5.heap h') : Inv X b.pins σ H5 { s5 with heap := h' } := by
  have hC : b.s.heap.objs.size ≤ b.C := I5.ok.above
  have ne : ∀ c o, b.s.heap.get? c = some o → c ≠ b.C := fun c o e => Nat.ne_of_lt (Nat.lt_of_lt_of_le (Heap.lt_size e) hC)
  have u : Un (frs X.stack) b.fp b.H H5 b.s.heap s5.heap := I5.base
  have hn : H5 b.C = none := I5.free
  refine I3.call' (s' := { s5 with heap := h' }) (ch := b.fp) I5.os ⟨fun c o e n hb hx => (sb.2 c (ne c o e)).trans (u.keep c o e n hb hx), fun c o e n hb hx => ?_, u.free, fun c o e hx => ?_, u.tups, u.frzs, u.tbls⟩ (fun a o e => ?_) I5.bare
    fun x hx => ⟨(hfp x hx).2.2.2.1, (hfp x hx).2.1, (hfp x hx).2.2.2.2.1, (hfp x hx).2.2.2.2.2⟩
  · obtain ⟨sl, q⟩ := u.slot c o e n hb hx
    exact ⟨sl, (sb.2 c (ne c o e)).trans q⟩
  · obtain ⟨o', q⟩ := u.there c o e hx
    exact ⟨o', (sb.2 c (ne c o e)).trans q⟩
  · refine (I5.hok a o e).stay (fun c w' hc q => (sb.2 c ?_).trans q) (fun _ q => q) fun _ _ q => q
    rintro rfl
    rcases hc with z | z
    · rw [← z, hn] at e; cases e
    · rw [hn] at z; cases z
end
noncomputable def PTs (X : Cx) (ifs : List Expr) (t : TT) : Prop :=
  ∀ (pins : List (Addr × Obj)) (s : Shared) (σ : St) (H : Hp) (Q : Bool → Hp → Prop), Inv X pins σ H s → t σ H Q →
    wpAny (model X.prog X.w) X.A (forIn ifs true fun c r => if r = true then do let ok ← isTrue c X.env (eval c X.env); pure (ForInStep.yield ok) else pure (ForInStep.yield r)) (TP X pins σ Q) X.xe s
noncomputable def zB : TT := fun _ H Q => Q true H
theorem Aa {X : Cx} : PTs X [] zB := fun pins s σ H Q I h => wpAny_tests_nil ⟨H, I, h⟩
theorem uo {X : Cx} {c : Expr} {t : TT} (hc : PT X c t) : PTs X [c] t := fun pins s σ H Q I h => wpAny_tests_one (hc pins s σ H Q I h)
noncomputable def tLC (wi : TI) (g : TG) (ts : TT) (te : TE) (sel : List (Option Nat)) : TE := fun σ H Q => wi σ H fun J H1 => ∀ acc, H1 acc = none →
  ∃ W : Nat → Nat → St → Hp → Prop, (∃ m, W 0 m (eg σ sel) (upd H1 acc (.lst []))) ∧ ∀ i m σ H, W i m σ H →
    (J.stop i H ∧ Q (.ref acc) H) ∨ (J.go i H ∧ ∃ N : St → Hp → Prop, (∀ σ' H', N σ' H' → ∃ m', m' < m ∧ W (i + 1) m' σ' H') ∧ ∀ x H', J.yld i H x H' → g x σ H' fun σ2 H2 =>
      ts σ2 H2 fun c H3 => if c = true then te σ2 H3 fun v H4 => ∃ ys, H4 acc = some (.lst ys) ∧ ys.length < sizeLine ∧ N σ2 (upd H4 acc (.lst (ys ++ [v]))) else N σ2 H3)
section
variable {X : Cx} {tg iter elt : Expr} {ifs : List Expr} {sc : Scope} {pos : Pos} {wi : TI} {g : TG} {ts : TT} {te : TE} {N : List Str} {sel : List (Option Nat)}
theorem iJ {α : Type} {t : Sem α} {Q Q' : α → Shared → Prop} {M : Model} {A : Around} {E : Value → Shared → Prop} {s : Shared} (h : wpAny M A t Q (fun _ _ => False) s) (hQ : ∀ a s, Q a s → Q' a s) : wpAny M A t Q' E s :=
  wpAny_mono h hQ fun _ _ f => f.elim
theorem vI {pins : List (Addr × Obj)} {σ : St} {H3 : Hp} {s3 : Shared} {acc it : Addr} {fp : List Addr} {tn : Nat → Heap → Prop} {J : It} {RR : Addr → Result → Shared → Prop} {QQ : Hp → Prop} {W : Nat → Nat → St → Hp → Prop} {m0 : Nat} (B : Blk X N sel sc) (hc : X.calm = true)
    (hg : ∀ b, PG (blk X N sc b) tg g) (ht : ∀ b, PTs (blk X N sc b) ifs ts) (he : ∀ b, PE (blk X N sc b) elt te) (I3 : Inv X pins σ H3 s3) (T : Turn X.prog X.w X.K tg J fp it tn) (st3 : tn 0 s3.heap) (f3 : ∀ b ∈ fp, eN X pins H3 b)
    (w0 : W 0 m0 (eg σ sel) H3)
    (turn : ∀ i m σ H, W i m σ H → (J.stop i H ∧ QQ H) ∨ (J.go i H ∧ ∃ N : St → Hp → Prop, (∀ σ' H', N σ' H' → ∃ m', m' < m ∧ W (i + 1) m' σ' H') ∧ ∀ x H', J.yld i H x H' → g x σ H' fun σ2 H2 =>
      ts σ2 H2 fun c H3 => if c = true then te σ2 H3 fun v H4 => ∃ ys, H4 acc = some (.lst ys) ∧ ys.length < sizeLine ∧ N σ2 (upd H4 acc (.lst (ys ++ [v]))) else N σ2 H3))
    (hRR : ∀ C H5 s5 m, s5.heap.Ns C m → (∀ h', Heap.SameBut C s5.heap h' → Inv X pins σ H5 { s5 with heap := h' }) → H5 C = none → C ≠ X.env.locals → (∀ x c, X.env.cells.lookup x = some c → c ≠ C) → X.s₀.heap.objs.size ≤ C → (∀ p ∈ X.pn ++ pins, p.1 ≠ C) → QQ H5 → RR C (.ok .next) s5) :
    wpAny (model X.prog X.w) X.A (newFunctionEnv sc X.env.globals (b8 X.env sc.names []) [] X.env.qual none .none (some X.env)) (fun cenv s4 =>
        codeAny (model X.prog X.w) X.A (.compStart (.ListComp elt [⟨tg, iter, ifs, 0⟩] sc pos) 0 (.ref it) (.ref acc) { cenv with scope := relabel sc X.env }) (RR cenv.locals) s4) X.xe s3 := by
  refine wpAny_newFunctionEnv (fun y hy z => ?_) (by intro y hy; simp at hy) (fun h4 hn4 sb4 => ?_) B.kind
  · have := List.all_eq_true.mp B.nocell y hy
    rw [z] at this
    simp at this
  have ob3 : ∀ b ∈ fp, ∃ o, s3.heap.get? b = some o := fun b hb => by
    obtain ⟨o, e, _⟩ := T.obj _ _ st3 b hb
    exact ⟨o, e⟩
  have kept : ∀ b o, s3.heap.get? b = some o → h4.get? b = some o := fun b o e => (sb4.2 b (Nat.ne_of_lt (Heap.lt_size e))).trans (Heap.get?_push_of_some _ e)
  have st4 : tn 0 h4 := T.keep _ _ _ st3 fun b hb o e => kept b o e
  have I4 := xC (tk := s3.toks + ([] : List (Str × Value)).length) B I3 f3 ob3 (by simpa using hn4) sb4
  generalize hb : (⟨fp, pins, s3, H3, s3.heap.objs.size⟩ : BA) = b at I4
  have bfp : b.fp = fp := by rw [← hb]
  have bpins : b.pins = pins := by rw [← hb]
  have bs : b.s = s3 := by rw [← hb]
  have bH : b.H = H3 := by rw [← hb]
  have bC : b.C = s3.heap.objs.size := by rw [← hb]
  have fpb : ∀ {H' : Hp}, (∀ x ∈ fp, H' x = none) → ∀ x ∈ fp, eN (blk X N sc b) [] H' x := fun {H'} hn x hx => by
    refine ⟨hn x hx, ?_, fun z => ?_, .inl ?_, fun y c e => (f3 x hx).2.2.2.2.1 y c (B.sub y c e), fun p hp => ?_⟩
    · show x ≠ b.C
      rw [bC]
      obtain ⟨o, e⟩ := ob3 x hx
      exact Nat.ne_of_lt (Heap.lt_size e)
    · rcases List.mem_cons.mp (I3.stkSub x z) with q | q
      · exact (f3 x hx).2.1 q
      · exact (f3 x hx).2.2.1 q
    · show x ∈ b.fp
      rw [bfp]; exact hx
    · have hp : p ∈ X.pn ++ b.pins := by simpa [blk] using hp
      rw [bpins] at hp
      exact (f3 x hx).2.2.2.2.2 p hp
  have loop : ∀ s5 : Shared, s5 = { s3 with heap := h4, toks := s3.toks + ([] : List (Str × Value)).length } →
      codeAny (model X.prog X.w) X.A (.compLoop (.ListComp elt [⟨tg, iter, ifs, 0⟩] sc pos) 0 (.ref it) (.ref acc) (blk X N sc b).env) (RR s3.heap.objs.size) s5 := by
    rintro s5 rfl
    refine codeAny_loop rfl (fun n s' => ∃ i σ' H', Inv (blk X N sc b) [] σ' H' s' ∧ tn i s'.heap ∧ (∀ x ∈ fp, H' x = none) ∧ W i n σ' H') (fun n s6 hI => ?_) m0 ⟨0, _, _, I4, st4, fun x hx => (f3 x hx).1, w0⟩
    obtain ⟨i, σ6, H6, I6, st6, fr6, w6⟩ := hI
    show wpAny _ X.A ((compTurn (.ListComp elt [⟨tg, iter, ifs, 0⟩] sc pos) 0 (.ref it) (.ref acc) (blk X N sc b).env).onRaise (fun x => do noteFrame x (blk X N sc b).env; theTreesLotGoes x)) _ _ s6
    refine wpAny_noted ?_
    rw [compTurn_list]
    rcases turn i n σ6 H6 w6 with ⟨stop, qn⟩ | ⟨go, NN, hNN, step⟩
    · refine wpAny_bind (wpAny_standAt (wpAny_bind (iJ (T.done (blk X N sc b) rfl rfl rfl hc i [] s6 σ6 H6 _ I6 (fpb fr6) st6 stop) fun r s7 ⟨hr, I7⟩ => ?_)))
      subst hr
      refine wpAny_pure ?_
      obtain ⟨m7, hn7, _⟩ := I7.loc
      have hn7 : s7.heap.Ns b.C m7 := hn7
      have I3' : Inv X b.pins σ b.H b.s := by rw [bpins, bH, bs]; exact I3
      refine hRR _ H6 s7 m7 (by rw [← bC]; exact hn7) (fun h' sb => ?_) (by rw [← bC]; exact I7.free) ?_ (fun x c e z => ?_) I3.sz (fun p hp => Nat.ne_of_lt (Heap.lt_size (I3.pin p hp).1)) qn
      · rw [← bC] at sb
        have := vS (b := b) I3' (fun x hx => by rw [bfp] at hx; rw [bpins, bH]; exact f3 x hx) I7 sb
        rw [bpins] at this
        exact this
      · exact Ne.symm (Nat.ne_of_lt I3.lt)
      · obtain ⟨v, o, ho, _⟩ := I3.cell x c e
        rw [z] at ho
        exact absurd (Heap.lt_size ho) (Nat.lt_irrefl _)
    · refine wpAny_bind (wpAny_standAt (wpAny_bind (iJ (T.item (blk X N sc b) rfl rfl rfl hc i [] s6 σ6 H6 _ I6 (fpb fr6) st6 go) fun r s7 ⟨u, hr, h7⟩ => ?_)))
      subst hr
      refine wpAny_bind (iJ h7 fun _ s8 ⟨x, H8, I8, r8, y8, st8, fr8⟩ => ?_)
      have I8' := I8.pinned (fpb fr8) (T.obj _ _ st8)
      refine wpAny_bind (iJ (hg b _ s8 σ6 H8 x u _ I8' r8 (step x H8 y8)) fun _ s9 ⟨σ9, H9, I9, q9⟩ => ?_)
      refine wpAny_bind (iJ (ht b _ s9 σ9 H9 _ I9 q9) fun ok s10 ⟨H10, I10, q10⟩ => ?_)
      have again : ∀ {sA : Shared} {σ7 : St} {H7 : Hp}, Inv (blk X N sc b) ([] ++ kZ fp s8.heap) σ7 H7 sA → NN σ7 H7 → ∃ m, m < n ∧ ∃ i σ' H', Inv (blk X N sc b) [] σ' H' sA ∧ tn i sA.heap ∧ (∀ x ∈ fp, H' x = none) ∧ W i m σ' H' := fun {sA σ7 H7} I7 n7 => by
        obtain ⟨m', hm, w7⟩ := hNN σ7 H7 n7
        refine ⟨m', hm, i + 1, σ7, H7, I7.unpinned, T.keep _ _ _ st8 fun b hb o e => (I7.pin (b, o) (List.mem_append_right _ (List.mem_append_right _ (mL hb e)))).1, fun b hb => ?_, w7⟩
        obtain ⟨o, e, d⟩ := T.obj _ _ st8 b hb
        exact (I7.pin (b, o) (List.mem_append_right _ (List.mem_append_right _ (mL hb e)))).2.1
      cases ok with
      | false =>
        exact wpAny_pure ⟨rfl, again I10 q10⟩
      | true =>
        have q10 : te σ9 H10 _ := q10
        refine wpAny_bind (wpAny_bind (iJ (he b _ s10 σ9 H10 _ I10 q10) fun u' s11 ⟨v, H11, I11, r11, ys, ha, hz, nn⟩ => ?_))
        refine wpAny_bind (iJ (kr (X := blk X N sc b) _ s11 σ9 H11 (.ref acc) [v] (.ref acc) [u'] (fun _ H12 => NN σ9 H12) I11 rfl (.cons r11 .nil) ⟨_, ys, v, rfl, rfl, ha, hz, nn⟩) fun _ s12 ⟨_, H12, I12, _, n12⟩ => ?_)
        exact wpAny_pure (wpAny_pure ⟨rfl, again I12 n12⟩)
  have env_eq : (blk X N sc b).env = compEnvC sc (b8 X.env sc.names []) s3.heap.objs.size X.env := by
    show compEnvC sc (b8 X.env sc.names []) b.C X.env = _
    rw [bC]
  show codeAny (model X.prog X.w) X.A (.compStart (.ListComp elt [⟨tg, iter, ifs, 0⟩] sc pos) 0 (.ref it) (.ref acc) (compEnvC sc (b8 X.env sc.names []) s3.heap.objs.size X.env)) (RR s3.heap.objs.size) _
  rw [← env_eq]
  exact codeAny_compStart_list (loop _ rfl) (T.self _ _ _ _ _ st4 (loop _ rfl))
theorem rH {pins : List (Addr × Obj)} {s : Shared} {σ : St} {H : Hp} {Q : VK} {RR : Value → Addr → Result → Shared → Prop} (B : Blk X N sel sc) (hc : X.calm = true)
    (hi : PI X tg iter wi) (hg : ∀ b, PG (blk X N sc b) tg g) (ht : ∀ b, PTs (blk X N sc b) ifs ts) (he : ∀ b, PE (blk X N sc b) elt te) (I : Inv X pins σ H s) (h : tLC wi g ts te sel σ H Q)
    (hRR : ∀ acc C H5 s5 m, s5.heap.Ns C m → (∀ h', Heap.SameBut C s5.heap h' → Inv X pins σ H5 { s5 with heap := h' }) → H5 C = none → C ≠ X.env.locals → (∀ x c, X.env.cells.lookup x = some c → c ≠ C) → X.s₀.heap.objs.size ≤ C → (∀ p ∈ X.pn ++ pins, p.1 ≠ C) → Q (.ref acc) H5 → RR (.ref acc) C (.ok .next) s5) :
    wpAny (model X.prog X.w) X.A (eval iter X.env) (fun v s1 => wpAny (model X.prog X.w) X.A (pyIter v) (fun it s2 => wpAny (model X.prog X.w) X.A (newList []) (fun acc s3 =>
      wpAny (model X.prog X.w) X.A (newFunctionEnv sc X.env.globals (b8 X.env sc.names []) [] X.env.qual none .none (some X.env)) (fun cenv s4 =>
        codeAny (model X.prog X.w) X.A (.compStart (.ListComp elt [⟨tg, iter, ifs, 0⟩] sc pos) 0 it acc { cenv with scope := relabel sc X.env }) (RR acc cenv.locals) s4) X.xe s3) X.xe s2) X.xe s1) X.xe s := by
  refine thn (hi pins s σ H _ I h) fun v s1 h1 => thn h1 fun itv s2 h2 => ?_
  obtain ⟨it, fp, tn, J, H2, e, I2, T, st2, f2, q⟩ := h2
  subst e
  obtain ⟨W, ⟨m0, w0⟩, turn⟩ := q _ I2.fresh
  have I3 : Inv X pins σ (upd H2 s2.heap.objs.size (.lst [])) { s2 with heap := s2.heap.push { cls := .type "list", data := .seq ([] : List Value).toArray }, toks := s2.toks } := I2.lnew (ys := []) (its := []) (t' := s2.toks) .nil (Nat.zero_le _)
  have fne : ∀ b ∈ fp, b ≠ s2.heap.objs.size := fun b hb => by
    obtain ⟨o, e, _⟩ := T.obj _ _ st2 b hb
    exact Nat.ne_of_lt (Heap.lt_size e)
  have f3 : ∀ b ∈ fp, eN X pins (upd H2 s2.heap.objs.size (.lst [])) b := fun b hb => ⟨by rw [aD (fne b hb)]; exact (f2 b hb).1, (f2 b hb).2⟩
  refine wpAny_newObj_type ?_
  exact vI (QQ := Q (.ref s2.heap.objs.size)) (RR := fun C => RR (.ref s2.heap.objs.size) C) B hc hg ht he I3 T (T.keep _ _ _ st2 fun b hb o e => Heap.get?_push_of_some _ e) f3 w0 turn fun C H5 s5 m => hRR _ C H5 s5 m
theorem Bf (B : Blk X N sel sc) (hc : X.calm = true) (hi : PI X tg iter wi) (hg : ∀ b, PG (blk X N sc b) tg g) (ht : ∀ b, PTs (blk X N sc b) ifs ts) (he : ∀ b, PE (blk X N sc b) elt te)
    (hs : ∀ x, foldedSetIterable iter X.env x = pure x := by intro _; rfl) : PE X (.ListComp elt [⟨tg, iter, ifs, 0⟩] sc pos) (tLC wi g ts te sel) := by
  intro pins s σ H Q I h
  rw [eval_ListComp]
  refine wpAny_comprehension_free (use := none) (cl := b8 X.env sc.names []) rfl hs (qe (B.has I.ok)) B.kind (fun y hy hl => ?_) ?_
  · have := List.all_eq_true.mp B.names y hy
    rw [hl] at this
    simpa using this
  · refine rH (RR := fun acc C => compPost (model X.prog X.w) X.A X.xe none (EP X pins σ Q) acc C) B hc hi hg ht he I h ?_
    intro acc C H5 s5 m hn hI _ _ _ _ _ q
    exact ⟨m, hn, fun h' sb => ⟨.ref acc, H5, hI h' sb, rfl, q⟩⟩
theorem vf {i : Nat} {x : Str} {pos' spos : Pos} (B : Blk X N sel sc) (hc : X.calm = true) (hN : X.N.Nodup) (hx : X.N[i]? = some x) (hl : X.env.scope.names.lookup x = some .local) (hi : PI X tg iter wi)
    (hg : ∀ b, PG (blk X N sc b) tg g) (ht : ∀ b, PTs (blk X N sc b) ifs ts) (he : ∀ b, PE (blk X N sc b) elt te)
    (hsw : swapsWith (.ListComp elt [⟨tg, iter, ifs, 0⟩] sc pos) (some (.Name x pos')) spos.line X.env = pure true := by rfl)
    (hs : ∀ x, foldedSetIterable iter X.env x = pure x := by intro _; rfl) : PS X (.Assign [.Name x pos'] (.ListComp elt [⟨tg, iter, ifs, 0⟩] sc pos) spos) (hW (tLC wi g ts te sel) (gI i)) := by
  intro pins s σ H D I h
  rw [exec_Assign_Name_used _ _ _ _ hsw]
  refine wpAny_bind (wpAny_standAt (wpAny_bind ?_))
  show wpAny _ X.A (do let _ ← comprehension (.ListComp elt [⟨tg, iter, ifs, 0⟩] sc pos) sc X.env _ (newList []) false (eval iter X.env) (some (assign (.Name x pos') X.env))) _ _ s
  refine wpAny_bind (thn (Q := fun _ s' => SP X pins D .next s') (wpAny_comprehension_free (use := some (assign (.Name x pos') X.env)) (cl := b8 X.env sc.names []) rfl hs (qe (B.has I.ok)) B.kind (fun y hy hl => ?_) ?_)
    fun _ s' hq => wpAny_pure (wpAny_pure hq))
  · have := List.all_eq_true.mp B.names y hy
    rw [hl] at this
    simpa using this
  · refine rH (RR := fun acc C => compPost (model X.prog X.w) X.A X.xe (some (assign (.Name x pos') X.env)) (fun _ s' => SP X pins D .next s') acc C) B hc hi hg ht he I h ?_
    intro acc C H5 s5 m hn hI hC hCl hCc hCz hCp q
    have q : D.nx (σ.set i (some (.ref acc))) H5 := q
    have I5 : Inv X pins σ H5 s5 := hI s5.heap (.refl ..)
    refine wpAny_assign_Name (tM I5 hN hx (.inl hl) (show RelV (.ref acc) (.ref acc) from rfl) (fun s6 I6 ⟨a, sa, ha⟩ => ?_) (.inr hl))
    have neC : C ≠ a := by
      rcases ha with ha | ha
      · rw [ha]; exact hCl
      · exact fun z => hCc x a ha z.symm
    refine ⟨m, hn.sameBut sa neC, fun h' sb => ?_⟩
    refine ⟨_, H5, ?_, q⟩
    exact I6.turned (t' := s6.toks) (fun b o hb e => (sb.2 b hb).trans e) hC hCl (.inr hCz) hCc hCp
end
end L2
namespace L2
open PySem PySem.Spec PyProof.Rows
noncomputable def dE (C a : Addr) : Heap → Prop := fun h => ∃ o, h.get? a = some o ∧ o.cls = .ref C
end L2
namespace DL
open PySem PySem.Spec PyProof.Rows L2
noncomputable abbrev St := L2.St
inductive D where
  | non | bl (b : Bool) | int (i : Int) | str (x : Str) | tup (xs : List D) | lst (xs : List D)
  | scr (ns : List Int)
  | exc (c : Str)
  | key (r : Str) (n : Int)
  | obj (ks : List (Str × Int)) (vs as bs : List D)
inductive Sl where
  | no | sh (d : D) | ow (ds : List D)
  | nw (xss : List (List D))
  | dc (ks : List Int) (vs : List D)
  | ob (ks : List (Str × Int)) (vs as bs : List D)
noncomputable abbrev DSt := List Sl
inductive DV where
  | val (d : D) | slot (i : Nat) | own (ds : List D)
  | fld (i j : Nat)
inductive Rs (α : Type) where
  | un | er (c : Str) | ok (a : α) (δ : DSt)
noncomputable abbrev DM (α : Type) := DSt → Rs α
noncomputable def DM.ret {α : Type} (a : α) : DM α := fun δ => .ok a δ
noncomputable def DM.bd {α β : Type} (f : DM α) (g : α → DM β) : DM β := fun δ => match f δ with | .un => .un | .er c => .er c | .ok a δ' => g a δ'
noncomputable abbrev Om := Addr → Option Nat
noncomputable def ShL (H : Hp) (Ω : Om) (a : Addr) (xs : List V) : Prop := Rd H a (.lst xs) ∧ Ω a = none
noncomputable def KL (K : PySem.W.Frag) (H : Hp) (a : Addr) (xs : List V) : Prop := (∃ o, H a = some (.frz o (.lst xs))) ∨
  ∃ (o : Obj) (its : Array Value) (n : Nat), K.lookup a = some o ∧ o.cls = .type "list" ∧ o.dict = none ∧ o.data = .seq its n ∧ its.size ≤ sizeLine ∧ Vals xs its.toList
theorem KL.sq {K : PySem.W.Frag} {H : Hp} {a : Addr} {xs : List V} (h : KL K H a xs) : SqL K H a xs := h.elim (fun ⟨o, z⟩ => .inl (.inr ⟨o, z⟩)) .inr
noncomputable def bP (p : Str × Int) : List Key := [.inr p.1, .inl p.2]
noncomputable def bT (K : PySem.W.Frag) (H : Hp) (p a1 a2 a3 : Addr) : Prop := ∃ C dx, PySem.W.nsIn K mainGlobals "Bed" = some (some (.ref C)) ∧ H p = some (.ins C dx [("borne", .ref a1), ("knitted", .ref a2), ("past", .ref a3)])
mutual
noncomputable def Rep (K : PySem.W.Frag) (H : Hp) (Ω : Om) : D → V → Prop
  | .non, v => v = .non
  | .bl b, v => v = .bl b
  | .int i, v => v = .int i
  | .str x, v => v = .str x
  | .tup ds, v => ∃ a vs, v = .ref a ∧ SqT K H a vs ∧ au K H Ω ds vs
  | .lst ds, v => ∃ a vs, v = .ref a ∧ ShL H Ω a vs ∧ au K H Ω ds vs
  | .scr ns, v => ∃ a, v = .ref a ∧ KL K H a (ns.map V.int)
  | .exc c, v => ∃ a C, v = .ref a ∧ PySem.W.nsIn K mainGlobals c = some (some (.ref C)) ∧ H a = some (.ext (dE C a))
  | .key r n, v => ∃ a, v = .ref a ∧ H a = some (.tup [.str r, .int n])
  | .obj ks vs as bs, v => ∃ p a1 a2 a3 kvs xs ys, v = .ref p ∧ bT K H p a1 a2 a3 ∧ (H a1 = some (.dT kvs) ∧ Ω a1 = none) ∧ (H a2 = some (.lst xs) ∧ Ω a2 = none) ∧ (H a3 = some (.lst ys) ∧ Ω a3 = none) ∧ kvs.map (·.1) = ks.map bP ∧ au K H Ω vs (kvs.map (·.2)) ∧ au K H Ω as xs ∧ au K H Ω bs ys
noncomputable def au (K : PySem.W.Frag) (H : Hp) (Ω : Om) : List D → List V → Prop
  | [], vs => vs = []
  | d :: ds, vs => ∃ v r, vs = v :: r ∧ Rep K H Ω d v ∧ au K H Ω ds r
end
noncomputable def bB : HO → Bool
  | .lst _ => false
  | .dK _ => false
  | .dT _ => false
  | _ => true
structure Ext (H : Hp) (Ω : Om) (H' : Hp) (Ω' : Om) : Prop where
  keep : ∀ b o, H b = some o → (bB o = true ∨ Ω b = none ∨ Ω b = some 0) → H' b = some o
  new : ∀ b, Ω b = none → H b ≠ none → Ω' b = none
  fr : ∀ b, Ω b = some 0 ↔ Ω' b = some 0
  live : ∀ b, H' b = none → H b = none
section
variable {K : PySem.W.Frag} {H H1 H2 H' : Hp} {Ω Ω1 Ω2 Ω' : Om}
theorem Ext.refl : Ext H Ω H Ω := ⟨fun _ _ e _ => e, fun _ e _ => e, fun _ => Iff.rfl, fun _ e => e⟩
theorem Ext.trans (a : Ext H Ω H1 Ω1) (b : Ext H1 Ω1 H2 Ω2) : Ext H Ω H2 Ω2 where
  keep := fun x o e h => b.keep x o (a.keep x o e h) (h.imp_right fun z => z.imp (fun z => a.new x z (by rw [e]; exact Option.some_ne_none _)) fun z => (a.fr x).mp z)
  new := fun x e h => b.new x (a.new x e h) fun z => h (a.live x z)
  fr := fun x => (a.fr x).trans (b.fr x)
  live := fun x e => a.live x (b.live x e)
theorem Rd.ext {a : Addr} {u : HO} (e : Ext H Ω H' Ω') (h : Rd H a u) (hq : bB u = true ∨ Ω a = none) : Rd H' a u := by
  rcases h with h | ⟨o, h⟩
  · exact .inl (e.keep a _ h (hq.imp_right .inl))
  · exact .inr ⟨o, e.keep a _ h (.inl rfl)⟩
theorem SqT.ext {a : Addr} {xs : List V} (e : Ext H Ω H' Ω') (h : SqT K H a xs) : SqT K H' a xs :=
  h.imp (fun z => Rd.ext e z (.inl rfl)) id
theorem Rd.some {a : Addr} {u : HO} (h : Rd H a u) : H a ≠ none := by
  rcases h with h | ⟨o, h⟩ <;> rw [h] <;> exact Option.some_ne_none _
theorem ShL.ext {a : Addr} {xs : List V} (e : Ext H Ω H' Ω') (h : ShL H Ω a xs) : ShL H' Ω' a xs :=
  ⟨Rd.ext e h.1 (.inr h.2), e.new a h.2 (Rd.some h.1)⟩
theorem bT.ext {p a1 a2 a3 : Addr} (e : Ext H Ω H' Ω') (h : bT K H p a1 a2 a3) : bT K H' p a1 a2 a3 := by
  obtain ⟨C, dx, h1, h2⟩ := h
  exact ⟨C, dx, h1, e.keep p _ h2 (.inl rfl)⟩
theorem Ext.nn {a : Addr} {o : HO} (e : Ext H Ω H' Ω') (h : H a = some o ∧ Ω a = none) : H' a = some o ∧ Ω' a = none := ⟨e.keep a _ h.1 (.inr (.inl h.2)), e.new a h.2 (by rw [h.1]; exact Option.some_ne_none _)⟩
mutual
theorem Rep.ext (e : Ext H Ω H' Ω') : ∀ {d : D} {v : V}, Rep K H Ω d v → Rep K H' Ω' d v
  | .non, _, h => h
  | .bl _, _, h => h
  | .int _, _, h => h
  | .str _, _, h => h
  | .tup _, _, h => by
    obtain ⟨a, vs, e1, e2, e3⟩ := (show ∃ a vs, _ from h)
    exact (show ∃ a vs, _ from ⟨a, vs, e1, SqT.ext e e2, au.ext e e3⟩)
  | .lst _, _, h => by
    obtain ⟨a, vs, e1, e2, e3⟩ := (show ∃ a vs, _ from h)
    exact (show ∃ a vs, _ from ⟨a, vs, e1, ShL.ext e e2, au.ext e e3⟩)
  | .scr _, _, h => by
    obtain ⟨a, e1, e2⟩ := (show ∃ a, _ from h)
    exact (show ∃ a, _ from ⟨a, e1, e2.imp (fun ⟨o, z⟩ => ⟨o, e.keep a _ z (.inl rfl)⟩) id⟩)
  | .exc _, _, h => by
    obtain ⟨a, C, e1, e2, e3⟩ := (show ∃ a C, _ from h)
    exact (show ∃ a C, _ from ⟨a, C, e1, e2, e.keep a _ e3 (.inl rfl)⟩)
  | .key _ _, _, h => by
    obtain ⟨a, e1, e2⟩ := (show ∃ a, _ from h)
    exact (show ∃ a, _ from ⟨a, e1, e.keep a _ e2 (.inl rfl)⟩)
  | .obj _ _ _ _, _, h => by
    obtain ⟨p, a1, a2, a3, kvs, xs, ys, e1, e2, e3, e4, e5, e6, e7, e8, e9⟩ := (show ∃ p a1 a2 a3 kvs xs ys, _ from h)
    exact (show ∃ p a1 a2 a3 kvs xs ys, _ from ⟨p, a1, a2, a3, kvs, xs, ys, e1, e2.ext e, e.nn e3, e.nn e4, e.nn e5, e6, au.ext e e7, au.ext e e8, au.ext e e9⟩)
theorem au.ext (e : Ext H Ω H' Ω') : ∀ {ds : List D} {vs : List V}, au K H Ω ds vs → au K H' Ω' ds vs
  | [], _, h => h
  | _ :: _, _, h => by
    obtain ⟨v, r, e1, e2, e3⟩ := (show ∃ v r, _ from h)
    exact (show ∃ v r, _ from ⟨v, r, e1, Rep.ext e e2, au.ext e e3⟩)
end
theorem au.length : ∀ {ds : List D} {vs : List V}, au K H Ω ds vs → ds.length = vs.length
  | [], _, h => by cases (show _ = [] from h); rfl
  | _ :: _, _, h => by
    obtain ⟨v, r, e1, e2, e3⟩ := (show ∃ v r, _ from h)
    subst e1
    rw [List.length_cons, List.length_cons, au.length e3]
theorem au.nil : au K H Ω [] [] := rfl
theorem au.cons {d : D} {ds : List D} {v : V} {vs : List V} (h : Rep K H Ω d v) (r : au K H Ω ds vs) : au K H Ω (d :: ds) (v :: vs) := ⟨v, vs, rfl, h, r⟩
theorem au.get : ∀ {ds : List D} {vs : List V} {i : Nat} {d : D}, au K H Ω ds vs → ds[i]? = some d → ∃ v, vs[i]? = some v ∧ Rep K H Ω d v
  | [], _, _, _, _, e => by simp at e
  | d :: ds, _, 0, d', h, e => by
    obtain ⟨v, r, e1, e2, e3⟩ := (show ∃ v r, _ from h)
    subst e1
    have : d = d' := by simpa using e
    subst this
    exact ⟨v, rfl, e2⟩
  | _ :: ds, _, i + 1, d', h, e => by
    obtain ⟨v, r, e1, e2, e3⟩ := (show ∃ v r, _ from h)
    subst e1
    obtain ⟨w, q1, q2⟩ := au.get (i := i) e3 (by simpa using e)
    exact ⟨w, by simpa using q1, q2⟩
theorem au.append : ∀ {ds es : List D} {vs ws : List V}, au K H Ω ds vs → au K H Ω es ws → au K H Ω (ds ++ es) (vs ++ ws)
  | [], _, _, _, h, q => by cases (show _ = [] from h); exact q
  | _ :: _, _, _, _, h, q => by
    obtain ⟨v, r, e1, e2, e3⟩ := (show ∃ v r, _ from h)
    subst e1
    exact .cons e2 (au.append e3 q)
theorem au.take : ∀ {ds : List D} {vs : List V} (n : Nat), au K H Ω ds vs → au K H Ω (ds.take n) (vs.take n)
  | _, _, 0, _ => .nil
  | [], _, _ + 1, h => by cases (show _ = [] from h); exact .nil
  | _ :: _, _, n + 1, h => by
    obtain ⟨v, r, e1, e2, e3⟩ := (show ∃ v r, _ from h)
    subst e1
    exact .cons e2 (au.take n e3)
theorem au.set {d : D} {v : V} (h1 : Rep K H Ω d v) : ∀ {ds : List D} {vs : List V} (n : Nat), au K H Ω ds vs → au K H Ω (ds.set n d) (vs.set n v)
  | [], _, _, h => by cases (show _ = [] from h); exact .nil
  | _ :: _, _, 0, h => by
    obtain ⟨v, r, e1, e2, e3⟩ := (show ∃ v r, _ from h)
    subst e1
    exact .cons h1 e3
  | _ :: _, _, n + 1, h => by
    obtain ⟨v, r, e1, e2, e3⟩ := (show ∃ v r, _ from h)
    subst e1
    exact .cons e2 (au.set h1 n e3)
end
noncomputable def Nst (K : PySem.W.Frag) (H : Hp) (Ω : Om) (k : Nat) (xss : List (List D)) (bs : List Addr) : Prop := ∀ (j : Nat) b xs, bs[j]? = some b → xss[j]? = some xs → ∃ ws, H b = some (.lst ws) ∧ Ω b = some k ∧ au K H Ω xs ws
noncomputable def eB (K : PySem.W.Frag) (H : Hp) (Ω : Om) (k : Nat) (p : Addr) (ks : List (Str × Int)) (vs as bs : List D) : Prop := ∃ a1 a2 a3 kvs xs ys, bT K H p a1 a2 a3 ∧ (H a1 = some (.dT kvs) ∧ Ω a1 = some k) ∧ (H a2 = some (.lst xs) ∧ Ω a2 = some k) ∧ (H a3 = some (.lst ys) ∧ Ω a3 = some k) ∧ a2 ≠ a3 ∧ kvs.map (·.1) = ks.map bP ∧ au K H Ω vs (kvs.map (·.2)) ∧ au K H Ω as xs ∧ au K H Ω bs ys
noncomputable def eU (K : PySem.W.Frag) (H : Hp) (Ω : Om) (i : Nat) : Sl → Option V → Prop
  | .no, _ => True
  | .sh d, o => ∃ v, o = some v ∧ Rep K H Ω d v
  | .ow ds, o => ∃ a vs, o = some (.ref a) ∧ H a = some (.lst vs) ∧ Ω a = some (i + 2) ∧ au K H Ω ds vs
  | .nw xss, o => ∃ (a : Addr) (bs : List Addr), o = some (.ref a) ∧ H a = some (.lst (bs.map V.ref)) ∧ Ω a = some (i + 2) ∧ (a :: bs).Nodup ∧ bs.length = xss.length ∧ Nst K H Ω (i + 2) xss bs
  | .dc ks vs, o => ∃ (a : Addr) (kvs : List (Key × V)), o = some (.ref a) ∧ H a = some (.dK kvs) ∧ Ω a = some (i + 2) ∧ kvs.map (·.1) = ks.map Sum.inl ∧ au K H Ω vs (kvs.map (·.2))
  | .ob ks vs as bs, o => ∃ p, o = some (.ref p) ∧ eB K H Ω (i + 2) p ks vs as bs
structure ar (K : PySem.W.Frag) (H : Hp) (Ω : Om) (σ : St) (δ : DSt) : Prop where
  len : δ.length = σ.length
  sl : ∀ (i : Nat) s, δ[i]? = some s → eU K H Ω i s (σ[i]?).join
  trk : ∀ a k, Ω a = some k → ∃ u, H a = some u ∧ bB u = false
noncomputable def cA (K : PySem.W.Frag) (H : Hp) (Ω : Om) (σ : St) : DV → V → Prop
  | .val d, v => Rep K H Ω d v
  | .slot i, v => σ[i]? = some (some v)
  | .own ds, v => ∃ a vs, v = .ref a ∧ H a = some (.lst vs) ∧ Ω a = some 1 ∧ au K H Ω ds vs
  | .fld i j, v => ∃ p a1 a2 a3, σ[i]? = some (some (.ref p)) ∧ bT K H p a1 a2 a3 ∧ ((j = 1 ∧ v = .ref a2) ∨ (j = 2 ∧ v = .ref a3))
noncomputable def Trk (H : Hp) (Ω : Om) : Prop := ∀ a k, Ω a = some k → ∃ u, H a = some u ∧ bB u = false
noncomputable def Wg {α : Type} (E : Str → Hp → Prop) (H : Hp) (Ω : Om) (P : α → DSt → Hp → Om → Prop) (r : Rs α) : Prop := match r with
  | .un => False
  | .er c => ∀ H' Ω', Ext H Ω H' Ω' → Trk H' Ω' → E c H'
  | .ok a δ' => ∀ H' Ω', Ext H Ω H' Ω' → P a δ' H' Ω'
noncomputable def dk (K : PySem.W.Frag) (H : Hp) (Ω : Om) (σ : St) : List DV → List V → Prop
  | [], vs => vs = []
  | a :: as, vs => ∃ v r, vs = v :: r ∧ cA K H Ω σ a v ∧ dk K H Ω σ as r
noncomputable def DV.st : DV → Bool
  | .own _ => false
  | _ => true
noncomputable abbrev PV (K : PySem.W.Frag) (σ : St) (Q : VK) : DV → DSt → Hp → Om → Prop := fun a δ' H' Ω' => ar K H' Ω' σ δ' → ∀ v, cA K H' Ω' σ a v → Q v H'
noncomputable abbrev PB (K : PySem.W.Frag) (σ : St) (Q : Bool → Hp → Prop) : Bool → DSt → Hp → Om → Prop := fun b δ' H' Ω' => ar K H' Ω' σ δ' → Q b H'
noncomputable abbrev PVs (K : PySem.W.Frag) (σ : St) (Q : List V → Hp → Prop) : List DV → DSt → Hp → Om → Prop := fun as δ' H' Ω' => ar K H' Ω' σ δ' → ∀ vs, dk K H' Ω' σ as vs → (∀ a ∈ as, a.st = true) → Q vs H'
inductive Fl where
  | nx | bk | ct | rt (d : D) | rto (ds : List D)
noncomputable def FlQ (K : PySem.W.Frag) (H : Hp) (Ω : Om) (σ : St) (B : Ends) : Fl → Prop
  | .nx => B.nx σ H
  | .bk => B.bk σ H
  | .ct => B.ct σ H
  | .rt d => ∀ v, Rep K H Ω d v → B.rt v H
  | .rto ds => ∀ v, cA K H Ω σ (.own ds) v → B.rt v H
noncomputable abbrev PF (K : PySem.W.Frag) (mp : List Nat) (σ : St) (B : Ends) : Fl → DSt → Hp → Om → Prop := fun fl δ' H' Ω' => ∀ σ', ar K H' Ω' σ' δ' → (∀ j ∈ mp, σ'[j]? = σ[j]?) → FlQ K H' Ω' σ' B fl
noncomputable def DE (K : PySem.W.Frag) (E : Str → Hp → Prop) (te : TE) (f : DM DV) : Prop := ∀ σ H δ Ω, ar K H Ω σ δ → ∀ Q, Wg E H Ω (PV K σ Q) (f δ) → te σ H Q
noncomputable def DT (K : PySem.W.Frag) (E : Str → Hp → Prop) (tt : TT) (f : DM Bool) : Prop := ∀ σ H δ Ω, ar K H Ω σ δ → ∀ Q, Wg E H Ω (PB K σ Q) (f δ) → tt σ H Q
noncomputable def DA (K : PySem.W.Frag) (E : Str → Hp → Prop) (ta : TA) (f : DM (List DV)) : Prop := ∀ σ H δ Ω, ar K H Ω σ δ → ∀ Q, Wg E H Ω (PVs K σ Q) (f δ) → ta σ H Q
noncomputable def DS (K : PySem.W.Frag) (E : Str → Hp → Prop) (mp : List Nat) (ts : TS) (f : DM Fl) : Prop := ∀ σ H δ Ω, ar K H Ω σ δ → ∀ B, Wg E H Ω (PF K mp σ B) (f δ) → ts B σ H
section
variable {K : PySem.W.Frag} {E : Str → Hp → Prop} {H H1 H2 H' : Hp} {Ω Ω1 Ω2 Ω' : Om} {σ : St} {δ : DSt}
theorem Wg.ext {α : Type} {P : α → DSt → Hp → Om → Prop} {r : Rs α} (h : Wg E H Ω P r) (e : Ext H Ω H' Ω') : Wg E H' Ω' P r := by
  cases r with
  | un => exact h
  | er c => exact fun H2 Ω2 e2 => h H2 Ω2 (e.trans e2)
  | ok a δ' => exact fun H2 Ω2 e2 => h H2 Ω2 (e.trans e2)
theorem Wg.imp {α : Type} {P P' : α → DSt → Hp → Om → Prop} {r : Rs α} (h : Wg E H Ω P r) (hp : ∀ a δ' H' Ω', Ext H Ω H' Ω' → P a δ' H' Ω' → P' a δ' H' Ω') : Wg E H Ω P' r := by
  cases r with
  | un => exact h
  | er c => exact h
  | ok a δ' => exact fun H2 Ω2 e2 => hp _ _ _ _ e2 (h H2 Ω2 e2)
theorem Wg.bd {α β : Type} {f : DM α} {g : α → DM β} {P : β → DSt → Hp → Om → Prop} (h : Wg E H Ω P (f.bd g δ)) {P1 : α → DSt → Hp → Om → Prop}
    (k : ∀ a δ' H' Ω', Ext H Ω H' Ω' → Wg E H' Ω' P (g a δ') → P1 a δ' H' Ω') : Wg E H Ω P1 (f δ) := by
  unfold DM.bd at h
  cases e : f δ with
  | un => rw [e] at h; exact h
  | er c => rw [e] at h; exact h
  | ok a δ' => rw [e] at h; exact fun H' Ω' ex => k a δ' H' Ω' ex (Wg.ext h ex)
theorem cA.ext {a : DV} {v : V} (h : cA K H Ω σ a v) (ha : a.st = true) (e : Ext H Ω H' Ω') : cA K H' Ω' σ a v := by
  cases a with
  | val d => exact Rep.ext e h
  | slot i => exact h
  | own ds => cases ha
  | fld i j =>
    obtain ⟨p, a1, a2, a3, e1, e2, e3⟩ := h
    exact ⟨p, a1, a2, a3, e1, e2.ext e, e3⟩
theorem dk.ext : ∀ {as : List DV} {vs : List V}, dk K H Ω σ as vs → (∀ a ∈ as, a.st = true) → Ext H Ω H' Ω' → dk K H' Ω' σ as vs
  | [], _, h, _, _ => h
  | _ :: _, _, h, ha, e => by
    obtain ⟨v, r, e1, e2, e3⟩ := h
    exact ⟨v, r, e1, e2.ext (ha _ List.mem_cons_self) e, e3.ext (fun a q => ha a (List.mem_cons_of_mem _ q)) e⟩
theorem Wg.now {d : DV} {v : V} {Q : VK} (h : Wg E H Ω (PV K σ Q) (.ok d δ)) (R : ar K H Ω σ δ) (r : cA K H Ω σ d v) : Q v H := h H Ω .refl R v r
theorem Wg.nowB {b : Bool} {Q : Bool → Hp → Prop} (h : Wg E H Ω (PB K σ Q) (.ok b δ)) (R : ar K H Ω σ δ) : Q b H := h H Ω .refl R
noncomputable def bZ (Ω : Om) (p : Addr) : Om := fun b => if b = p then some 1 else Ω b
noncomputable def freed (Ω : Om) (p : Addr) : Om := fun b => if b = p then none else Ω b
theorem Ext.alloc {p : Addr} {o : HO} (hp : H p = none) (trk : ∀ a k, Ω a = some k → ∃ u, H a = some u ∧ bB u = false) : Ext H Ω (upd H p o) Ω where
  keep := fun b o' e _ => by rw [aD (cz e hp)]; exact e
  new := fun _ e _ => e
  fr := fun _ => Iff.rfl
  live := fun b e => by
    unfold upd at e
    split at e
    · cases e
    · exact e
theorem Ext.alloc1 {p : Addr} {xs : List V} (hp : H p = none) (trk : ∀ a k, Ω a = some k → ∃ u, H a = some u ∧ bB u = false) : Ext H Ω (upd H p (.lst xs)) (bZ Ω p) where
  keep := fun b o' e _ => by rw [aD (cz e hp)]; exact e
  new := fun b e h => by
    unfold bZ
    rw [if_neg (fun z => h (by rw [z]; exact hp))]
    exact e
  fr := fun b => by
    unfold bZ
    split
    · rename_i z
      subst z
      constructor
      · intro q
        obtain ⟨vs, e, _⟩ := trk _ _ q
        rw [hp] at e; cases e
      · intro q; cases q
    · exact Iff.rfl
  live := fun b e => by
    unfold upd at e
    split at e
    · cases e
    · exact e
theorem Ext.free {p : Addr} {k : Nat} (hp : Ω p = some (k + 1)) : Ext H Ω H (freed Ω p) where
  keep := fun b o' e _ => e
  new := fun b e h => by unfold freed; split <;> first | rfl | exact e
  fr := fun b => by
    unfold freed
    split
    · rename_i z
      subst z
      rw [hp]
      constructor <;> intro q <;> cases q
    · exact Iff.rfl
  live := fun b e => e
theorem ShL.less {a : Addr} {xs : List V} (h : ShL H Ω a xs) (hl : ∀ b, Ω b = none → Ω' b = none) : ShL H Ω' a xs := ⟨h.1, hl a h.2⟩
mutual
theorem Rep.less (hl : ∀ b, Ω b = none → Ω' b = none) : ∀ {d : D} {v : V}, Rep K H Ω d v → Rep K H Ω' d v
  | .non, _, h => h
  | .bl _, _, h => h
  | .int _, _, h => h
  | .str _, _, h => h
  | .tup _, _, h => by
    obtain ⟨a, vs, e1, e2, e3⟩ := (show ∃ a vs, _ from h)
    exact (show ∃ a vs, _ from ⟨a, vs, e1, e2, au.less hl e3⟩)
  | .lst _, _, h => by
    obtain ⟨a, vs, e1, e2, e3⟩ := (show ∃ a vs, _ from h)
    exact (show ∃ a vs, _ from ⟨a, vs, e1, e2.less hl, au.less hl e3⟩)
  | .scr _, _, h => h
  | .exc _, _, h => h
  | .key _ _, _, h => h
  | .obj _ _ _ _, _, h => by
    obtain ⟨p, a1, a2, a3, kvs, xs, ys, e1, e2, e3, e4, e5, e6, e7, e8, e9⟩ := (show ∃ p a1 a2 a3 kvs xs ys, _ from h)
    exact (show ∃ p a1 a2 a3 kvs xs ys, _ from ⟨p, a1, a2, a3, kvs, xs, ys, e1, e2, ⟨e3.1, hl _ e3.2⟩, ⟨e4.1, hl _ e4.2⟩, ⟨e5.1, hl _ e5.2⟩, e6, au.less hl e7, au.less hl e8, au.less hl e9⟩)
theorem au.less (hl : ∀ b, Ω b = none → Ω' b = none) : ∀ {ds : List D} {vs : List V}, au K H Ω ds vs → au K H Ω' ds vs
  | [], _, h => h
  | _ :: _, _, h => by
    obtain ⟨v, r, e1, e2, e3⟩ := (show ∃ v r, _ from h)
    exact (show ∃ v r, _ from ⟨v, r, e1, Rep.less hl e2, au.less hl e3⟩)
end
theorem uh {p : Addr} : ∀ b, Ω b = none → freed Ω p b = none := fun b e => by unfold freed; split <;> first | rfl | exact e
theorem wb {p b : Addr} {o u : HO} (hl : ∃ vs, H p = some vs ∧ bB vs = false) (q : H b = some u) (f : bB u = true) : upd H p o b = some u := by
  rw [aD]
  · exact q
  · rintro rfl
    obtain ⟨v, e, g⟩ := hl
    rw [e] at q
    cases q
    rw [f] at g
    cases g
theorem eU.mv {i : Nat} {s : Sl} {o : Option V} (h : eU K H Ω i s o) (h1 : ∀ d v, Rep K H Ω d v → Rep K H' Ω' d v) (h2 : ∀ ds vs, au K H Ω ds vs → au K H' Ω' ds vs)
    (hk : ∀ b u, Ω b = some (i + 2) → H b = some u → H' b = some u ∧ Ω' b = some (i + 2)) (hf : ∀ b u, H b = some u → bB u = true → H' b = some u := by first | exact (fun _ _ q _ => q) | exact (fun _ _ q f => wb (by assumption) q f) | exact (fun b u q f => Ext.keep (by assumption) b u q (.inl f))) : eU K H' Ω' i s o := by
  cases s with
  | no => trivial
  | sh d => obtain ⟨v, e1, e2⟩ := h; exact ⟨v, e1, h1 _ _ e2⟩
  | ow ds =>
    obtain ⟨a, vs, e1, e2, e3, e4⟩ := h
    obtain ⟨q1, q2⟩ := hk a _ e3 e2
    exact ⟨a, vs, e1, q1, q2, h2 _ _ e4⟩
  | nw xss =>
    obtain ⟨a, bs, e1, e2, e3, e4, e5, e6⟩ := h
    obtain ⟨q1, q2⟩ := hk a _ e3 e2
    refine ⟨a, bs, e1, q1, q2, e4, e5, fun j b xs z1 z2 => ?_⟩
    obtain ⟨ws, w1, w2, w3⟩ := e6 j b xs z1 z2
    obtain ⟨y1, y2⟩ := hk b _ w2 w1
    exact ⟨ws, y1, y2, h2 _ _ w3⟩
  | dc ks vs =>
    obtain ⟨a, kvs, e1, e2, e3, e4, e5⟩ := h
    obtain ⟨q1, q2⟩ := hk a _ e3 e2
    exact ⟨a, kvs, e1, q1, q2, e4, h2 _ _ e5⟩
  | ob ks vs as bs =>
    obtain ⟨p, e0, a1, a2, a3, kvs, xs, ys, ⟨C, dx, c1, c2⟩, e3, e4, e5, ne, e6, e7, e8, e9⟩ := h
    exact ⟨p, e0, a1, a2, a3, kvs, xs, ys, ⟨C, dx, c1, hf _ _ c2 rfl⟩, hk _ _ e3.2 e3.1, hk _ _ e4.2 e4.1, hk _ _ e5.2 e5.1, ne, e6, h2 _ _ e7, h2 _ _ e8, h2 _ _ e9⟩
theorem eU.ext {i : Nat} {s : Sl} {o : Option V} (h : eU K H Ω i s o) (e : Ext H Ω H' Ω') (hk : ∀ b u, Ω b = some (i + 2) → H b = some u → H' b = some u ∧ Ω' b = some (i + 2)) : eU K H' Ω' i s o := h.mv (fun _ _ => Rep.ext e) (fun _ _ => au.ext e) hk fun b u q f => e.keep b u q (.inl f)
theorem ar.ext (R : ar K H Ω σ δ) (e : Ext H Ω H' Ω') (hk : ∀ b k u, Ω b = some (k + 2) → H b = some u → H' b = some u ∧ Ω' b = some (k + 2)) (ht : ∀ a k, Ω' a = some k → ∃ u, H' a = some u ∧ bB u = false) : ar K H' Ω' σ δ :=
  ⟨R.len, fun i s h => (R.sl i s h).ext e fun b vs q1 q2 => hk b i vs q1 q2, ht⟩
theorem ar.alloc {p : Addr} {o : HO} (R : ar K H Ω σ δ) (hp : H p = none) : ar K (upd H p o) Ω σ δ :=
  R.ext (.alloc hp R.trk) (fun b k vs q1 q2 => ⟨by rw [aD (cz q2 hp)]; exact q2, q1⟩) fun a k q => by
    obtain ⟨vs, e, f⟩ := R.trk a k q
    exact ⟨vs, by rw [aD (cz e hp)]; exact e, f⟩
theorem ar.alloc1 {p : Addr} {xs : List V} (R : ar K H Ω σ δ) (hp : H p = none) : ar K (upd H p (.lst xs)) (bZ Ω p) σ δ :=
  R.ext (.alloc1 hp R.trk) (fun b k vs q1 q2 => by
    have : b ≠ p := cz q2 hp
    exact ⟨by rw [aD this]; exact q2, by unfold bZ; rw [if_neg this]; exact q1⟩) fun a k q => by
    by_cases h : a = p
    · subst h; exact ⟨_, aT, rfl⟩
    · unfold bZ at q
      rw [if_neg h] at q
      obtain ⟨vs, e, f⟩ := R.trk a k q
      exact ⟨vs, by rw [aD h]; exact e, f⟩
theorem ar.free1 {p : Addr} (R : ar K H Ω σ δ) (hp : Ω p = some 1) : ar K H (freed Ω p) σ δ :=
  R.ext (.free (k := 0) hp) (fun b k vs q1 q2 => ⟨q2, by
    unfold freed
    rw [if_neg]
    · exact q1
    · rintro rfl; rw [hp] at q1; cases q1⟩) fun a k q => by
    unfold freed at q
    split at q
    · cases q
    · exact R.trk a k q
theorem Wg.alloc1 {p : Addr} {ds : List D} {xs : List V} {Q : VK} (h : Wg E H Ω (PV K σ Q) (.ok (.own ds) δ)) (R : ar K H Ω σ δ) (hp : H p = none) (r : au K H Ω ds xs) : Q (.ref p) (upd H p (.lst xs)) :=
  h _ (bZ Ω p) (.alloc1 hp R.trk) (R.alloc1 hp) _ ⟨p, xs, rfl, aT, by unfold bZ; rw [if_pos rfl], r.ext (.alloc1 hp R.trk)⟩
theorem Wg.allocT {p : Addr} {ds : List D} {xs : List V} {Q : VK} (h : Wg E H Ω (PV K σ Q) (.ok (.val (.tup ds)) δ)) (R : ar K H Ω σ δ) (hp : H p = none) (r : au K H Ω ds xs) : Q (.ref p) (upd H p (.tup xs)) :=
  h _ Ω (.alloc hp R.trk) (R.alloc hp) _ (show ∃ a vs, _ from ⟨p, xs, rfl, SqT.of aT, r.ext (.alloc hp R.trk)⟩)
noncomputable def norm : DV → DV
  | .own ds => .val (.lst ds)
  | a => a
noncomputable def fN (f : DM DV) : DM DV := f.bd fun a => .ret (norm a)
theorem zY (a : DV) : (norm a).st = true := by cases a <;> rfl
theorem cA.norm {a : DV} {v : V} (R : ar K H Ω σ δ) (h : cA K H Ω σ a v) : ∃ Ω', ar K H Ω' σ δ ∧ cA K H Ω' σ (norm a) v ∧ Ext H Ω H Ω' := by
  cases a with
  | val d => exact ⟨Ω, R, h, .refl⟩
  | slot i => exact ⟨Ω, R, h, .refl⟩
  | fld i j => exact ⟨Ω, R, h, .refl⟩
  | own ds =>
    obtain ⟨a, vs, e1, e2, e3, e4⟩ := h
    refine ⟨freed Ω a, R.free1 e3, (show ∃ a vs, _ from ⟨a, vs, e1, .intro (.inl e2) (by unfold freed; rw [if_pos rfl]), e4.less uh⟩), .free (k := 0) e3⟩
theorem DE.use {β : Type} {ta : TE} {f : DM DV} {g : DV → DM β} {P : β → DSt → Hp → Om → Prop} {T : V → Hp → Prop} (ha : DE K E ta f) (R : ar K H Ω σ δ) (h : Wg E H Ω P ((fN f).bd g δ))
    (k : ∀ a x δ' H' Ω', Ext H Ω H' Ω' → a.st = true → ar K H' Ω' σ δ' → cA K H' Ω' σ a x → Wg E H' Ω' P (g a δ') → T x H') : ta σ H T := by
  refine ha σ H δ Ω R T (Wg.bd (f := f) (g := fun a => g (norm a)) (P := P) ?_ fun a δ' H' Ω' ex h' R' v rv => ?_)
  · unfold fN DM.bd DM.ret at h
    unfold DM.bd
    cases e : f δ with
    | un => rw [e] at h; exact h
    | er c => rw [e] at h; exact h
    | ok a δ' => rw [e] at h; exact h
  · obtain ⟨Ω2, R2, r2, x2⟩ := rv.norm R'
    exact k (norm a) v δ' H' Ω2 (ex.trans x2) (zY a) R2 r2 (Wg.ext h' x2)
theorem DE.norm {ta : TE} {f : DM DV} (ha : DE K E ta f) : DE K E ta (fN f) := by
  intro σ H δ Ω R Q h
  refine ha.use (g := .ret) R (P := PV K σ Q) ?_ fun a x δ' H' Ω' _ _ R' r' h' => h'.now R' r'
  unfold fN DM.bd DM.ret at h ⊢
  cases e : f δ with
  | un => rw [e] at h; exact h
  | er c => rw [e] at h; exact h
  | ok a δ' => rw [e] at h; exact h
theorem DT.use {β : Type} {ta : TT} {f : DM Bool} {g : Bool → DM β} {P : β → DSt → Hp → Om → Prop} {T : Bool → Hp → Prop} (ha : DT K E ta f) (R : ar K H Ω σ δ) (h : Wg E H Ω P (f.bd g δ))
    (k : ∀ b δ' H' Ω', Ext H Ω H' Ω' → ar K H' Ω' σ δ' → Wg E H' Ω' P (g b δ') → T b H') : ta σ H T :=
  ha σ H δ Ω R T (Wg.bd h fun b δ' H' Ω' ex h' R' => k b δ' H' Ω' ex R' h')
theorem DA.use {β : Type} {ta : TA} {f : DM (List DV)} {g : List DV → DM β} {P : β → DSt → Hp → Om → Prop} {T : List V → Hp → Prop} (ha : DA K E ta f) (R : ar K H Ω σ δ) (h : Wg E H Ω P (f.bd g δ))
    (k : ∀ as vs δ' H' Ω', Ext H Ω H' Ω' → (∀ a ∈ as, a.st = true) → ar K H' Ω' σ δ' → dk K H' Ω' σ as vs → Wg E H' Ω' P (g as δ') → T vs H') : ta σ H T :=
  ha σ H δ Ω R T (Wg.bd h fun as δ' H' Ω' ex h' R' vs rv hs => k as vs δ' H' Ω' ex hs R' rv h')
noncomputable def cm (K : PySem.W.Frag) (H : Hp) (Ω : Om) : D → V → Prop
  | .lst ds, v => ∃ a vs, v = .ref a ∧ Rd H a (.lst vs) ∧ au K H Ω ds vs
  | .obj ks vs as bs, v => ∃ p a1 a2 a3 kvs xs ys, v = .ref p ∧ bT K H p a1 a2 a3 ∧ H a1 = some (.dT kvs) ∧ H a2 = some (.lst xs) ∧ H a3 = some (.lst ys) ∧ kvs.map (·.1) = ks.map bP ∧ au K H Ω vs (kvs.map (·.2)) ∧ au K H Ω as xs ∧ au K H Ω bs ys
  | d, v => Rep K H Ω d v
theorem Rep.b {d : D} {v : V} (h : Rep K H Ω d v) : cm K H Ω d v := by
  cases d with
  | lst ds => obtain ⟨a, vs, e1, e2, e3⟩ := (show ∃ a vs, _ from h); exact ⟨a, vs, e1, e2.1, e3⟩
  | obj ks vs as bs =>
    obtain ⟨p, a1, a2, a3, kvs, xs, ys, e1, e2, e3, e4, e5, e6, e7, e8, e9⟩ := (show ∃ p a1 a2 a3 kvs xs ys, _ from h)
    exact ⟨p, a1, a2, a3, kvs, xs, ys, e1, e2, e3.1, e4.1, e5.1, e6, e7, e8, e9⟩
  | _ => exact h
noncomputable def oj (s : Sl) (j : Nat) : Option (List D) := match s, j with
  | .ob _ _ as _, 1 => some as
  | .ob _ _ _ bs, 2 => some bs
  | .sh (.obj _ _ as _), 1 => some as
  | .sh (.obj _ _ _ bs), 2 => some bs
  | _, _ => none
noncomputable def res (δ : DSt) : DV → Option D
  | .val d => some d
  | .own ds => some (.lst ds)
  | .slot i => match δ[i]? with | some (.sh d) => some d | some (.ow ds) => some (.lst ds) | some (.ob ks vs as bs) => some (.obj ks vs as bs) | _ => none
  | .fld i j => match δ[i]? with | some s => (oj s j).map .lst | none => none
theorem bT.inj {p a1 a2 a3 b1 b2 b3 : Addr} (h : bT K H p a1 a2 a3) (q : bT K H p b1 b2 b3) : a1 = b1 ∧ a2 = b2 ∧ a3 = b3 := by
  obtain ⟨C, dx, _, h2⟩ := h
  obtain ⟨C', dx', _, q2⟩ := q
  rw [h2] at q2
  cases q2
  exact ⟨rfl, rfl, rfl⟩
theorem cA.res {a : DV} {x : V} {d : D} (R : ar K H Ω σ δ) (h : cA K H Ω σ a x) (e : res δ a = some d) : cm K H Ω d x := by
  cases a with
  | val d' => cases e; exact Rep.b h
  | own ds => cases e; obtain ⟨a, vs, e1, e2, e3, e4⟩ := h; exact ⟨a, vs, e1, .inl e2, e4⟩
  | slot i =>
    have h : σ[i]? = some (some x) := h
    unfold DL.res at e
    simp only at e
    split at e
    · rename_i d' hd
      cases e
      obtain ⟨v, e1, e2⟩ := R.sl i _ hd
      rw [h] at e1
      cases e1
      exact e2.b
    · rename_i ds hd
      cases e
      obtain ⟨a, vs, e1, e2, e3, e4⟩ := R.sl i _ hd
      rw [h] at e1
      cases e1
      exact ⟨a, vs, rfl, .inl e2, e4⟩
    · rename_i ks vs as bs hd
      cases e
      obtain ⟨p, e0, a1, a2, a3, kvs, xs, ys, e2, e3, e4, e5, ne, e6, e7, e8, e9⟩ := R.sl i _ hd
      rw [h] at e0
      cases e0
      exact ⟨p, a1, a2, a3, kvs, xs, ys, rfl, e2, e3.1, e4.1, e5.1, e6, e7, e8, e9⟩
    · cases e
  | fld i j =>
    obtain ⟨p, b1, b2, b3, h1, h2, h3⟩ := h
    unfold DL.res at e
    simp only at e
    split at e
    · rename_i s hd
      have sl := R.sl i _ hd
      rw [h1] at sl
      cases s with
      | ob ks vs as bs =>
        obtain ⟨p', e0, a1, a2, a3, kvs, xs, ys, e2, e3, e4, e5, ne, e6, e7, e8, e9⟩ := sl
        cases e0
        obtain ⟨rfl, rfl, rfl⟩ := h2.inj e2
        rcases h3 with ⟨rfl, rfl⟩ | ⟨rfl, rfl⟩
        · cases e; exact ⟨b2, xs, rfl, .inl e4.1, e8⟩
        · cases e; exact ⟨b3, ys, rfl, .inl e5.1, e9⟩
      | sh d =>
        cases d with
        | obj ks vs as bs =>
          obtain ⟨v, e0, hv⟩ := sl
          cases e0
          obtain ⟨p', a1, a2, a3, kvs, xs, ys, e1, e2, e3, e4, e5, e6, e7, e8, e9⟩ := (show ∃ p a1 a2 a3 kvs xs ys, _ from hv)
          cases e1
          obtain ⟨rfl, rfl, rfl⟩ := h2.inj e2
          rcases h3 with ⟨rfl, rfl⟩ | ⟨rfl, rfl⟩
          · cases e; exact ⟨b2, xs, rfl, .inl e4.1, e8⟩
          · cases e; exact ⟨b3, ys, rfl, .inl e5.1, e9⟩
        | _ => simp [oj] at e
      | _ => simp [oj] at e
    · cases e
end
end DL
namespace DL
open PySem PySem.Spec PyProof.Rows L2
noncomputable def PED (X : Cx) (E : Str → Hp → Prop) (e : Expr) (f : DM DV) : Prop := ∃ te, PE X e te ∧ DE X.K E te f
noncomputable def PTD (X : Cx) (E : Str → Hp → Prop) (e : Expr) (f : DM Bool) : Prop := ∃ tt, PT X e tt ∧ DT X.K E tt f
noncomputable def PWD (X : Cx) (E : Str → Hp → Prop) (e : Expr) (f : DM Bool) : Prop := ∃ tt, PW X e tt ∧ DT X.K E tt f
noncomputable def PAD (X : Cx) (E : Str → Hp → Prop) (es : List Expr) (f : DM (List DV)) : Prop := ∃ ta, PA X es ta ∧ DA X.K E ta f
noncomputable def PSD (X : Cx) (E : Str → Hp → Prop) (mp : List Nat) (st : Stmt) (f : DM Fl) : Prop := ∃ ts, PS X st ts ∧ DS X.K E mp ts f
noncomputable def dN (X : Cx) (E : Str → Hp → Prop) (mp : List Nat) (st : List Stmt) (f : DM Fl) : Prop := ∃ ts, PSs X st ts ∧ DS X.K E mp ts f
section
variable {K : PySem.W.Frag} {E : Str → Hp → Prop} {H H1 H2 H' : Hp} {Ω Ω1 Ω2 Ω' : Om} {σ : St} {δ : DSt}
theorem join_some {α : Type} {o : Option (Option α)} {v : α} (h : o.join = some v) : o = some (some v) := by
  cases o with
  | none => cases h
  | some a => cases a with
    | none => cases h
    | some b => exact congrArg some h
noncomputable def aa (i : Nat) : DM DV := fun δ => match δ[i]? with
  | some (.sh d) => .ok (.val d) δ
  | some (.ow _) => .ok (.slot i) δ
  | _ => .un
theorem zE {i : Nat} : DE K E (eV i) (aa i) := by
  intro σ H δ Ω R Q h
  unfold aa at h
  split at h
  · rename_i d hd
    obtain ⟨v, e1, e2⟩ := R.sl i _ hd
    exact ⟨v, join_some e1, h.now R e2⟩
  · rename_i ds hd
    obtain ⟨a, vs, e1, e2, e3, e4⟩ := R.sl i _ hd
    exact ⟨.ref a, join_some e1, h.now R (join_some e1)⟩
  · exact h.elim
noncomputable def fC (d : D) : DM DV := .ret (.val d)
theorem kK {d : D} {v : V} (hd : ∀ H Ω, Rep K H Ω d v) : DE K E (tC v) (fC d) := fun σ H δ Ω R Q h => Wg.now h R (hd H Ω)
noncomputable def af (f1 f2 : DM DV) (g : D → D → Option DV) : DM DV := (fN f1).bd fun a1 => (fN f2).bd fun a2 => fun δ => match res δ a1, res δ a2 with
  | some d1, some d2 => (match g d1 d2 with | some r => .ok r δ | none => .un)
  | _, _ => .un
noncomputable def DR (K : PySem.W.Frag) (r : R2) (g : D → D → Option DV) : Prop :=
  ∀ {E : Str → Hp → Prop} {σ : St} {H : Hp} {δ : DSt} {Ω : Om} {x y : V} {d1 d2 : D} {z : DV} {Q : VK}, ar K H Ω σ δ → cm K H Ω d1 x → cm K H Ω d2 y → g d1 d2 = some z → Wg E H Ω (PV K σ Q) (.ok z δ) → r x y H Q
theorem oS {r : R2} {g : D → D → Option DV} {ta tb : TE} {f1 f2 : DM DV} (hr : DR K r g) (ha : DE K E ta f1) (hb : DE K E tb f2) : DE K E (tOp r ta tb) (af f1 f2 g) := by
  intro σ H δ Ω R Q h
  refine ha.use R h fun a1 x δ1 H1 Ω1 _ s1 R1 r1 h1 => ?_
  refine hb.use R1 h1 fun a2 y δ2 H2 Ω2 e2 s2 R2 r2 h2 => ?_
  have r1 := r1.ext s1 e2
  cases q1 : res δ2 a1 with
  | none => rw [q1] at h2; exact h2.elim
  | some d1 =>
    cases q2 : res δ2 a2 with
    | none => rw [q1, q2] at h2; exact h2.elim
    | some d2 =>
      rw [q1, q2] at h2
      simp only at h2
      cases q3 : g d1 d2 with
      | none => rw [q3] at h2; exact h2.elim
      | some z =>
        rw [q3] at h2
        exact hr R2 (r1.res R2 q1) (r2.res R2 q2) q3 h2
noncomputable def fUn (f1 : DM DV) (g : D → Option DV) : DM DV := (fN f1).bd fun a1 => fun δ => match res δ a1 with
  | some d1 => (match g d1 with | some r => .ok r δ | none => .un)
  | _ => .un
noncomputable def aA (f : DM DV) : DM Bool := (fN f).bd fun a δ => match res δ a with
  | some (.bl b) => .ok b δ
  | _ => .un
theorem sF {t : TE} {f : DM DV} (ha : DE K E t f) : DT K E (sr t) (aA f) := by
  intro σ H δ Ω R Q h
  refine ha.use R h fun a x δ1 H1 Ω1 _ s1 R1 r1 h1 => ?_
  cases q1 : res δ1 a with
  | none => rw [q1] at h1; exact h1.elim
  | some d =>
    rw [q1] at h1
    cases d with
    | bl b => exact ⟨b, (show x = .bl b from r1.res R1 q1), Wg.nowB h1 R1⟩
    | _ => exact h1.elim
theorem yR {t : TE} {f : DM DV} (ha : DE K E t f) : DT K E (tB t) (aA f) := sF ha
noncomputable def cO (f g : DM Bool) : DM Bool := f.bd fun b => if b then g else .ret false
noncomputable def bA (f g : DM Bool) : DM Bool := f.bd fun b => if b then .ret true else g
noncomputable def bO (f : DM Bool) : DM Bool := f.bd fun b => .ret (!b)
theorem uL {t u : TT} {f g : DM Bool} (ha : DT K E t f) (hb : DT K E u g) : DT K E (pC t u) (cO f g) := by
  intro σ H δ Ω R Q h
  refine ha.use R h fun b δ1 H1 Ω1 _ R1 h1 => ?_
  cases b with
  | true => exact ke (hb σ H1 δ1 Ω1 R1 Q h1)
  | false => exact j8 (Wg.nowB h1 R1)
theorem u9 {t u : TT} {f g : DM Bool} (ha : DT K E t f) (hb : DT K E u g) : DT K E (tOr t u) (bA f g) := by
  intro σ H δ Ω R Q h
  refine ha.use R h fun b δ1 H1 Ω1 _ R1 h1 => ?_
  cases b with
  | true => exact ke (Wg.nowB h1 R1)
  | false => exact j8 (hb σ H1 δ1 Ω1 R1 Q h1)
theorem Bc {t : TT} {f : DM Bool} (ha : DT K E t f) : DT K E (rD t) (bO f) := by
  intro σ H δ Ω R Q h
  exact ha.use R h fun b δ1 H1 Ω1 _ R1 h1 => Wg.nowB h1 R1
noncomputable def jj (f : DM DV) (g : Bool → DM DV) : DM DV := (fN f).bd fun a δ => match res δ a with
  | some (.bl b) => g b δ
  | _ => .un
noncomputable def bW (f g : DM DV) : DM DV := jj f fun b => if b then g else fC (.bl false)
noncomputable def cI (f : DM DV) : DM DV := jj f fun b => fC (.bl (!b))
theorem rC {ta : TE} {f : DM DV} {g : Bool → DM DV} {T : Bool → TE} (ha : DE K E ta f) (hg : ∀ b, DE K E (T b) (g b)) : DE K E (fun σ H Q => ta σ H fun x H1 => ∃ c, x = .bl c ∧ T c σ H1 Q) (jj f g) := by
  intro σ H δ Ω R Q h
  refine ha.use R h fun a x δ1 H1 Ω1 _ s1 R1 r1 h1 => ?_
  cases q1 : res δ1 a with
  | none => rw [q1] at h1; exact h1.elim
  | some d =>
    rw [q1] at h1
    cases d with
    | bl b => exact ⟨b, (show x = .bl b from r1.res R1 q1), hg b σ H1 δ1 Ω1 R1 Q h1⟩
    | _ => exact h1.elim
theorem vL {ta tb : TE} {f g : DM DV} (ha : DE K E ta f) (hb : DE K E tb g) : DE K E (sH ta tb) (bW f g) :=
  rC (T := fun c σ H1 Q => if c = true then tb σ H1 Q else Q (.bl false) H1) ha fun b => by
    cases b with
    | true => exact fun σ H δ Ω R Q h => ke (hb σ H δ Ω R Q h)
    | false => exact fun σ H δ Ω R Q h => j8 (Wg.now h R rfl)
theorem AH {ta : TE} {f : DM DV} (ha : DE K E ta f) : DE K E (uf ta) (cI f) :=
  rC (T := fun c _ H1 Q => Q (.bl (!c)) H1) ha fun _ σ H δ Ω R Q h => Wg.now h R rfl
noncomputable def ah : DM (List DV) := .ret []
noncomputable def ae (f : DM DV) (r : DM (List DV)) : DM (List DV) := (fN f).bd fun a => r.bd fun as => .ret (a :: as)
theorem rQ : DA K E gL ah := fun σ H δ Ω R Q h => h H Ω .refl R [] rfl (fun _ z => nomatch z)
theorem wq {ta : TE} {tr : TA} {f : DM DV} {r : DM (List DV)} (ha : DE K E ta f) (hr : DA K E tr r) : DA K E (jS ta tr) (ae f r) := by
  intro σ H δ Ω R Q h
  refine ha.use R h fun a x δ1 H1 Ω1 _ s1 R1 r1 h1 => ?_
  refine hr.use R1 h1 fun as vs δ2 H2 Ω2 e2 s2 R2 r2 h2 => ?_
  exact h2 H2 Ω2 .refl R2 (x :: vs) ⟨x, vs, rfl, r1.ext s1 e2, r2⟩ fun b hb => by
    rcases List.mem_cons.mp hb with z | z
    · rw [z]; exact s1
    · exact s2 b z
noncomputable def bY : List DV → Option (List D)
  | [] => some []
  | .val d :: r => match bY r with | some ds => some (d :: ds) | none => none
  | _ :: _ => none
theorem dk.vals : ∀ {as : List DV} {vs : List V} {ds : List D}, dk K H Ω σ as vs → bY as = some ds → au K H Ω ds vs
  | [], _, _, h, e => by cases e; exact h
  | a :: r, _, ds, h, e => by
    obtain ⟨v, q, e1, e2, e3⟩ := h
    cases a with
    | val d =>
      have e : (match bY r with | some ds => some (d :: ds) | none => none) = some ds := e
      cases q' : bY r with
      | none => rw [q'] at e; cases e
      | some es => rw [q'] at e; cases e; subst e1; exact .cons e2 (dk.vals e3 q')
    | _ => cases e
noncomputable def iN (δ : DSt) : List DV → Option (List D)
  | [] => some []
  | a :: r => match res δ a, iN δ r with | some d, some ds => some (d :: ds) | _, _ => none
noncomputable def lr (K : PySem.W.Frag) (H : Hp) (Ω : Om) : List D → List V → Prop
  | [], vs => vs = []
  | d :: ds, vs => ∃ v r, vs = v :: r ∧ cm K H Ω d v ∧ lr K H Ω ds r
theorem dk.all (R : ar K H Ω σ δ) : ∀ {as : List DV} {vs : List V} {ds : List D}, dk K H Ω σ as vs → iN δ as = some ds → lr K H Ω ds vs
  | [], _, _, h, e => by cases e; exact h
  | a :: r, _, ds, h, e => by
    obtain ⟨v, q, e1, e2, e3⟩ := h
    unfold iN at e
    split at e
    · rename_i d es q1 q2
      cases e
      exact ⟨v, q, e1, e2.res R q1, dk.all R e3 q2⟩
    · cases e
noncomputable def fCB (fa : DM (List DV)) (g : List D → Option DV) : DM DV := fa.bd fun as => fun δ => match iN δ as with
  | some ds => (match g ds with | some r => .ok r δ | none => .un)
  | none => .un
noncomputable def DC (K : PySem.W.Frag) (r : List V → Hp → VK → Prop) (g : List D → Option DV) : Prop :=
  ∀ {E : Str → Hp → Prop} {σ : St} {H : Hp} {δ : DSt} {Ω : Om} {vs : List V} {ds : List D} {z : DV} {Q : VK}, ar K H Ω σ δ → lr K H Ω ds vs → g ds = some z → Wg E H Ω (PV K σ Q) (.ok z δ) → r vs H Q
theorem qc {r : List V → Hp → VK → Prop} {g : List D → Option DV} {t : TA} {fa : DM (List DV)} (hr : DC K r g) (ha : DA K E t fa) : DE K E (tCB r t) (fCB fa g) := by
  intro σ H δ Ω R Q h
  refine ha.use R h fun as vs δ1 H1 Ω1 _ s1 R1 r1 h1 => ?_
  cases q1 : iN δ1 as with
  | none => rw [q1] at h1; exact h1.elim
  | some ds =>
    rw [q1] at h1
    simp only at h1
    cases q3 : g ds with
    | none => rw [q3] at h1; exact h1.elim
    | some z =>
      rw [q3] at h1
      exact hr R1 (r1.all R1 q1) q3 h1
noncomputable def bu (fa : DM (List DV)) : DM DV := fa.bd fun as δ => match bY as with
  | some ds => if ds.length ≤ sizeLine then .ok (.val (.tup ds)) δ else .un
  | none => .un
noncomputable def bF (fa : DM (List DV)) : DM DV := fa.bd fun as δ => match bY as with
  | some ds => if ds.length ≤ sizeLine then .ok (.own ds) δ else .un
  | none => .un
theorem vE {t : TA} {fa : DM (List DV)} (ha : DA K E t fa) : DE K E (sv t) (bu fa) := by
  intro σ H δ Ω R Q h
  refine ha.use R h fun as vs δ1 H1 Ω1 _ s1 R1 r1 h1 => ?_
  cases q1 : bY as with
  | none => rw [q1] at h1; exact h1.elim
  | some ds =>
    rw [q1] at h1
    simp only at h1
    split at h1
    · rename_i hz
      have r := r1.vals q1
      exact ⟨by rw [← r.length]; exact hz, fun p hp => Wg.allocT h1 R1 hp r⟩
    · exact h1.elim
theorem vm {t : TA} {fa : DM (List DV)} (ha : DA K E t fa) : DE K E (kS t) (bF fa) := by
  intro σ H δ Ω R Q h
  refine ha.use R h fun as vs δ1 H1 Ω1 _ s1 R1 r1 h1 => ?_
  cases q1 : bY as with
  | none => rw [q1] at h1; exact h1.elim
  | some ds =>
    rw [q1] at h1
    simp only at h1
    split at h1
    · rename_i hz
      have r := r1.vals q1
      exact ⟨by rw [← r.length]; exact hz, fun p hp => Wg.alloc1 h1 R1 hp r⟩
    · exact h1.elim
noncomputable def aM : DM Fl := .ret .nx
noncomputable def ax (f g : DM Fl) : DM Fl := fun δ => match f δ with
  | .ok .nx δ' => g δ'
  | r => r
variable {mp : List Nat}
theorem yM : DS K E mp pF aM := fun σ H δ Ω R B h => h H Ω .refl σ R fun _ _ => rfl
theorem PF.same {B : Ends} {σ' : St} {fl : Fl} {δ' : DSt} (h : PF K mp σ B fl δ' H Ω) (hm : ∀ j ∈ mp, σ'[j]? = σ[j]?) : PF K mp σ' B fl δ' H Ω := fun σ2 R2 m2 => h σ2 R2 fun j hj => (m2 j hj).trans (hm j hj)
theorem Wg.same {B : Ends} {σ' : St} {r : Rs Fl} (h : Wg E H Ω (PF K mp σ B) r) (hm : ∀ j ∈ mp, σ'[j]? = σ[j]?) : Wg E H Ω (PF K mp σ' B) r := h.imp fun _ _ _ _ _ q => PF.same q hm
theorem zI {t u : TS} {f g : DM Fl} (hf : DS K E mp t f) (hg : DS K E mp u g) : DS K E mp (lV t u) (ax f g) := by
  intro σ H δ Ω R B h
  refine hf σ H δ Ω R _ ?_
  unfold ax at h
  cases e : f δ with
  | un => rw [e] at h; exact h
  | er c => rw [e] at h; exact h
  | ok a δ' =>
    rw [e] at h
    cases a with
    | nx => exact fun H' Ω' ex σ' R' m' => hg σ' H' δ' Ω' R' B ((Wg.ext h ex).same m')
    | bk => exact h
    | ct => exact h
    | rt d => exact h
    | rto ds => exact h
noncomputable def fIf (c : DM Bool) (f g : DM Fl) : DM Fl := c.bd fun b => if b then f else g
theorem zo {c : TT} {t u : TS} {fc : DM Bool} {f g : DM Fl} (hc : DT K E c fc) (hf : DS K E mp t f) (hg : DS K E mp u g) : DS K E mp (si c t u) (fIf fc f g) := by
  intro σ H δ Ω R B h
  refine hc.use R h fun b δ1 H1 Ω1 _ R1 h1 => ?_
  cases b with
  | true => exact ke (hf σ H1 δ1 Ω1 R1 B h1)
  | false => exact j8 (hg σ H1 δ1 Ω1 R1 B h1)
noncomputable def gx (f : DM DV) : DM Fl := f.bd fun _ => .ret .nx
theorem wz {te : TE} {f : DM DV} (ha : DE K E te f) : DS K E mp (qJ te) (gx f) := by
  intro σ H δ Ω R B h
  exact ha σ H δ Ω R _ (Wg.bd h fun a δ' H' Ω' ex h' R' v rv => h' H' Ω' .refl σ R' fun _ _ => rfl)
theorem ar.set {i : Nat} {s : Sl} {v : V} (R : ar K H Ω σ δ) (r : eU K H Ω i s (some v)) : ar K H Ω (σ.set i (some v)) (δ.set i s) := by
  refine ⟨by rw [List.length_set, List.length_set]; exact R.len, fun j t h => ?_, R.trk⟩
  by_cases hj : i = j
  · subst hj
    have hl : i < δ.length := by
      have := (List.getElem?_eq_some_iff.mp h).1
      rwa [List.length_set] at this
    rw [List.getElem?_set_self hl] at h
    cases h
    rw [List.getElem?_set_self (by rw [← R.len]; exact hl)]
    exact r
  · rw [List.getElem?_set_ne hj] at h
    rw [List.getElem?_set_ne hj]
    exact R.sl j t h
theorem ar.forget {i : Nat} (R : ar K H Ω σ δ) : ar K H Ω σ (δ.set i .no) := by
  refine ⟨by rw [List.length_set]; exact R.len, fun j t h => ?_, R.trk⟩
  by_cases hj : i = j
  · subst hj
    have hl : i < δ.length := by
      have := (List.getElem?_eq_some_iff.mp h).1
      rwa [List.length_set] at this
    rw [List.getElem?_set_self hl] at h
    cases h
    trivial
  · rw [List.getElem?_set_ne hj] at h
    exact R.sl j t h
theorem set_same {i : Nat} {o : Option V} (hi : i ∉ mp) : ∀ j ∈ mp, (σ.set i o)[j]? = σ[j]? := fun j hj => List.getElem?_set_ne fun z => hi (by rw [z]; exact hj)
noncomputable def aL (i : Nat) (f : DM DV) : DM Fl := (fN f).bd fun a δ => match a with
  | .val d => .ok .nx (δ.set i (.sh d))
  | _ => .un
theorem zO {i : Nat} {te : TE} {f : DM DV} (hi : i ∉ mp) (ha : DE K E te f) : DS K E mp (hW te (gI i)) (aL i f) := by
  intro σ H δ Ω R B h
  refine ha.use R h fun a x δ1 H1 Ω1 _ s1 R1 r1 h1 => ?_
  cases a with
  | val d => exact h1 H1 Ω1 .refl _ (R1.set ⟨x, rfl, r1⟩) (set_same hi)
  | slot j => exact h1.elim
  | own ds => exact h1.elim
  | fld _ _ => exact h1.elim
noncomputable def aQ (Ω : Om) (p : Addr) (k : Nat) : Om := fun b => if b = p then some k else Ω b
theorem Ext.own {p : Addr} {k k' : Nat} (hp : Ω p = some (k' + 1)) : Ext H Ω H (aQ Ω p (k + 1)) where
  keep := fun b o' e _ => e
  new := fun b e h => by
    unfold aQ
    rw [if_neg]
    · exact e
    · rintro rfl; rw [hp] at e; cases e
  fr := fun b => by
    unfold aQ
    split
    · rename_i z
      subst z
      rw [hp]
      constructor <;> intro q <;> cases q
    · exact Iff.rfl
  live := fun b e => e
theorem ar.aQ {p : Addr} {k k' : Nat} (R : ar K H Ω σ δ) (hp : Ω p = some (k' + 1)) (hs : ∀ i s, δ[i]? = some s → s = .no ∨ i + 2 ≠ k' + 1) : ar K H (DL.aQ Ω p (k + 1)) σ δ := by
  refine ⟨R.len, fun i s h => ?_, fun a j q => ?_⟩
  · rcases hs i s h with z | z
    · subst z; trivial
    refine (R.sl i s h).mv (fun _ _ => .ext (.own hp)) (fun _ _ => .ext (.own hp)) fun b vs e3 e2 => ⟨e2, ?_⟩
    unfold DL.aQ
    rw [if_neg]
    · exact e3
    · rintro rfl
      rw [hp] at e3
      exact z (Option.some.inj e3).symm
  · unfold DL.aQ at q
    split at q
    · rename_i z; subst z; exact R.trk _ _ hp
    · exact R.trk a j q
noncomputable def fz (i : Nat) (f : DM DV) : DM Fl := f.bd fun a δ => match a with
  | .own ds => .ok .nx (δ.set i (.ow ds))
  | _ => .un
theorem pJ {i : Nat} {te : TE} {f : DM DV} (hi : i ∉ mp) (ha : DE K E te f) : DS K E mp (hW te (gI i)) (fz i f) := by
  intro σ H δ Ω R B h
  refine ha σ H δ Ω R _ (Wg.bd h fun a δ1 H1 Ω1 ex h1 R1 x r1 => ?_)
  cases a with
  | val d => exact h1.elim
  | slot j => exact h1.elim
  | fld _ _ => exact h1.elim
  | own ds =>
    obtain ⟨a, vs, e1, e2, e3, e4⟩ := r1
    subst e1
    have R2 := R1.aQ (k := i + 1) (k' := 0) e3 fun j _ _ => .inr (by omega)
    exact h1 H1 (DL.aQ Ω1 a (i + 1 + 1)) (.own (k' := 0) e3) _ (R2.set ⟨a, vs, rfl, e2, by unfold DL.aQ; rw [if_pos rfl], e4.ext (.own (k' := 0) e3)⟩) (set_same hi)
noncomputable def frz (i : Nat) (δ : DSt) : DSt := match δ[i]? with
  | some (.ow ds) => δ.set i (.sh (.lst ds))
  | _ => δ
theorem Bo {i : Nat} {ts : TS} {f : DM Fl} (hf : DS K E mp ts f) : DS K E mp ts (fun δ => f (frz i δ)) := by
  intro σ H δ Ω R B h
  dsimp only at h
  unfold frz at h
  split at h
  · rename_i ds hd
    obtain ⟨a, vs, e1, e2, e3, e4⟩ := R.sl i _ hd
    have hl : i < δ.length := (List.getElem?_eq_some_iff.mp hd).1
    have ex : Ext H Ω H (freed Ω a) := .free (k := i + 1) e3
    have R0 : ar K H (freed Ω a) σ (δ.set i (.sh (.lst ds))) := by
      refine ⟨by rw [List.length_set]; exact R.len, fun j s q => ?_, fun b k q => ?_⟩
      · by_cases hj : i = j
        · subst hj
          rw [List.getElem?_set_self hl] at q
          cases q
          exact ⟨.ref a, e1, (show ∃ a vs, _ from ⟨a, vs, rfl, ⟨.inl e2, by unfold freed; rw [if_pos rfl]⟩, e4.less uh⟩)⟩
        · rw [List.getElem?_set_ne hj] at q
          refine (R.sl j s q).ext ex fun b ws q1 q2 => ⟨q2, ?_⟩
          unfold freed
          rw [if_neg]
          · exact q1
          · rintro rfl
            rw [e3] at q1
            exact hj (by have := Option.some.inj q1; omega)
      · unfold freed at q
        split at q
        · cases q
        · exact R.trk b k q
    exact hf σ H _ _ R0 B (Wg.ext h ex)
  · exact hf σ H δ Ω R B h
noncomputable def aF (f : DM DV) : DM Fl := f.bd fun a δ => match a with
  | .val d => .ok (.rt d) δ
  | .own ds => .ok (.rto ds) δ
  | .slot i => (match δ[i]? with | some (.ow ds) => .ok (.rto ds) (δ.set i .no) | _ => .un)
  | .fld _ _ => .un
theorem xk {te : TE} {f : DM DV} (ha : DE K E te f) : DS K E mp (qi te) (aF f) := by
  intro σ H δ Ω R B h
  refine ha σ H δ Ω R _ (Wg.bd h fun a δ1 H1 Ω1 ex h1 R1 x r1 => ?_)
  cases a with
  | val d => exact h1 H1 Ω1 .refl σ R1 (fun _ _ => rfl) x r1
  | own ds => exact h1 H1 Ω1 .refl σ R1 (fun _ _ => rfl) x r1
  | fld _ _ => exact h1.elim
  | slot i =>
    simp only at h1
    split at h1
    · rename_i ds hd
      obtain ⟨a, vs, e1, e2, e3, e4⟩ := R1.sl i _ hd
      have r1 : σ[i]? = some (some x) := r1
      rw [r1] at e1
      cases e1
      have hl : i < δ1.length := (List.getElem?_eq_some_iff.mp hd).1
      have R2 := (R1.forget (i := i)).aQ (k := 0) (k' := i + 1) e3 fun j s q => by
        by_cases z : j = i
        · subst z
          rw [List.getElem?_set_self hl] at q
          exact .inl (Option.some.inj q).symm
        · exact .inr (by omega)
      exact h1 H1 (DL.aQ Ω1 a (0 + 1)) (.own (k' := i + 1) e3) σ R2 (fun _ _ => rfl) _ ⟨a, vs, rfl, e2, by unfold DL.aQ; rw [if_pos rfl], e4.ext (.own (k' := i + 1) e3)⟩
    · exact h1.elim
end
end DL
namespace DL
open PySem PySem.Spec PyProof.Rows L2
structure Yl (K : PySem.W.Frag) (J : It) (H : Hp) (Ω : Om) (ds : List D) : Prop where
  go : ∀ i H' Ω', Ext H Ω H' Ω' → i < ds.length → J.go i H'
  yld : ∀ i d H' Ω' x H'', Ext H Ω H' Ω' → ds[i]? = some d → J.yld i H' x H'' → Rep K H'' Ω' d x ∧ (H'' = H' ∨ ∃ p xs, H' p = none ∧ H'' = upd H' p (.tup xs))
  stop : ∀ H' Ω', Ext H Ω H' Ω' → J.stop ds.length H'
noncomputable def DI (K : PySem.W.Frag) (E : Str → Hp → Prop) (wi : TI) (f : DM (List D)) : Prop := ∀ σ H δ Ω, ar K H Ω σ δ → ∀ R : It → Hp → Prop,
  Wg E H Ω (fun ds δ' H' Ω' => ar K H' Ω' σ δ' → ∀ J, (∀ Ω2 : Om, (∀ b, Ω' b = none → Ω2 b = none) → Yl K J H' Ω2 ds) → R J H') (f δ) → wi σ H R
noncomputable def DG (K : PySem.W.Frag) (mp : List Nat) (g : TG) (t : D → DSt → Option DSt) : Prop := ∀ σ H δ Ω d x δ', ar K H Ω σ δ → Rep K H Ω d x → t d δ = some δ' →
  ∀ Q : St → Hp → Prop, (∀ σ', ar K H Ω σ' δ' → (∀ j ∈ mp, σ'[j]? = σ[j]?) → Q σ' H) → g x σ H Q
section
variable {K : PySem.W.Frag} {E : Str → Hp → Prop} {H H1 H2 H' : Hp} {Ω Ω1 Ω2 Ω' : Om} {σ : St} {δ : DSt} {mp : List Nat}
noncomputable def bw (i : Nat) : D → DSt → Option DSt := fun d δ => some (δ.set i (.sh d))
theorem Bb {i : Nat} (hi : i ∉ mp) : DG K mp (gI i) (bw i) := by
  intro σ H δ Ω d x δ' R r e Q h
  cases e
  exact h _ (R.set ⟨x, rfl, r⟩) (set_same hi)
noncomputable def cX (t : D → DSt → Option DSt) (body : DM Fl) : List D → DM Fl
  | [], δ => .ok .nx δ
  | d :: ds, δ => match t d δ with
    | none => .un
    | some δ1 => match body δ1 with
      | .un => .un
      | .er c => .er c
      | .ok .nx δ2 => cX t body ds δ2
      | .ok .ct δ2 => cX t body ds δ2
      | .ok .bk δ2 => .ok .nx δ2
      | .ok (.rt d) δ2 => .ok (.rt d) δ2
      | .ok (.rto d) δ2 => .ok (.rto d) δ2
noncomputable def fE (fi : DM (List D)) (t : D → DSt → Option DSt) (body : DM Fl) : DM Fl := fi.bd fun ds => cX t body ds
theorem drop_cons {α : Type} {l : List α} {i : Nat} {a : α} (h : l[i]? = some a) : l.drop i = a :: l.drop (i + 1) := by
  obtain ⟨hi, e⟩ := List.getElem?_eq_some_iff.mp h
  rw [List.drop_eq_getElem_cons hi, e]
theorem vo {wi : TI} {g : TG} {tb : TS} {fi : DM (List D)} {t : D → DSt → Option DSt} {fb : DM Fl} (hi : DI K E wi fi) (hg : DG K mp g t) (hb : DS K E mp tb fb) : DS K E mp (pW wi g tb) (fE fi t fb) := by
  intro σ H δ Ω R B h
  refine hi σ H δ Ω R _ (Wg.bd h fun ds δ1 H1 Ω1 _ h1 R1 J YY => ?_)
  have Y := YY Ω1 fun _ z => z
  refine ⟨fun i m σ' H' => m = ds.length - i ∧ i ≤ ds.length ∧ ∃ δ' Ω', ar K H' Ω' σ' δ' ∧ Ext H1 Ω1 H' Ω' ∧ Wg E H' Ω' (PF K mp σ' B) (cX t fb (ds.drop i) δ'), ⟨_, rfl, Nat.zero_le _, δ1, Ω1, R1, .refl, h1⟩, ?_⟩
  rintro i m σ' H' ⟨rfl, hl, δ', Ω', R', e', w⟩
  by_cases hlt : i < ds.length
  · refine .inr ⟨Y.go i H' Ω' e' hlt, fun σ2 H2 => ∃ δ2 Ω2, ar K H2 Ω2 σ2 δ2 ∧ Ext H1 Ω1 H2 Ω2 ∧ Wg E H2 Ω2 (PF K mp σ2 B) (cX t fb (ds.drop (i + 1)) δ2), fun σ2 H2 ⟨δ2, Ω2, R2, e2, w2⟩ => ⟨_, by omega, rfl, hlt, δ2, Ω2, R2, e2, w2⟩, fun x H2 hy => ?_⟩
    obtain ⟨d, hd⟩ : ∃ d, ds[i]? = some d := ⟨ds[i], List.getElem?_eq_getElem hlt⟩
    obtain ⟨rx, hH⟩ := Y.yld i d H' Ω' x H2 e' hd hy
    have R2 : ar K H2 Ω' σ' δ' := by
      rcases hH with z | ⟨p, xs, hp, z⟩
      · rw [z]; exact R'
      · rw [z]; exact R'.alloc hp
    have e2 : Ext H' Ω' H2 Ω' := by
      rcases hH with z | ⟨p, xs, hp, z⟩
      · rw [z]; exact .refl
      · rw [z]; exact .alloc hp R'.trk
    rw [drop_cons hd] at w
    unfold cX at w
    cases q : t d δ' with
    | none => rw [q] at w; exact w.elim
    | some δ3 =>
      rw [q] at w
      simp only at w
      refine hg σ' H2 δ' Ω' d x δ3 R2 rx q _ fun σ3 R3 m3 => ?_
      refine hb σ3 H2 δ3 Ω' R3 _ ?_
      cases q4 : fb δ3 with
      | un => rw [q4] at w; exact w
      | er c => rw [q4] at w; exact Wg.ext (P := PF K mp σ' B) (r := .er c) w e2
      | ok fl δ4 =>
        rw [q4] at w
        cases fl with
        | nx => exact fun H4 Ω4 e4 σ4 R4 m4 => ⟨δ4, Ω4, R4, e'.trans (e2.trans e4), (Wg.ext w (e2.trans e4)).same fun j hj => (m4 j hj).trans (m3 j hj)⟩
        | ct => exact fun H4 Ω4 e4 σ4 R4 m4 => ⟨δ4, Ω4, R4, e'.trans (e2.trans e4), (Wg.ext w (e2.trans e4)).same fun j hj => (m4 j hj).trans (m3 j hj)⟩
        | bk => exact fun H4 Ω4 e4 σ4 R4 m4 => w H4 Ω4 (e2.trans e4) σ4 R4 fun j hj => (m4 j hj).trans (m3 j hj)
        | rt d => exact fun H4 Ω4 e4 σ4 R4 m4 => w H4 Ω4 (e2.trans e4) σ4 R4 fun j hj => (m4 j hj).trans (m3 j hj)
        | rto d => exact fun H4 Ω4 e4 σ4 R4 m4 => w H4 Ω4 (e2.trans e4) σ4 R4 fun j hj => (m4 j hj).trans (m3 j hj)
  · have hil : i = ds.length := by omega
    subst hil
    rw [List.drop_length] at w
    exact .inl ⟨Y.stop H' Ω' e', w H' Ω' .refl σ' R' fun _ _ => rfl⟩
noncomputable def nM (c : DM Bool) (body : DM Fl) : Nat → DM Fl
  | 0 => fun _ => .un
  | n + 1 => c.bd fun b => if b then (fun δ => match body δ with
      | .un => .un
      | .er c => .er c
      | .ok .nx δ2 => nM c body n δ2
      | .ok .ct δ2 => nM c body n δ2
      | .ok .bk δ2 => .ok .nx δ2
      | .ok (.rt d) δ2 => .ok (.rt d) δ2
      | .ok (.rto d) δ2 => .ok (.rto d) δ2) else .ret .nx
noncomputable def fIt (f : DM DV) (g : D → Option (List D)) : DM (List D) := (fN f).bd fun a δ => match a with
  | .val d => (match g d with | some ds => .ok ds δ | none => .un)
  | _ => .un
noncomputable def jE : D → Option (List D)
  | .lst ds => some ds
  | _ => none
noncomputable def mX : D → Option (List D)
  | .tup ds => some ds
  | _ => none
theorem zf {a : Addr} {vs : List V} {ds : List D} (h : ShL H Ω a vs) (r : au K H Ω ds vs) : Yl K (Itl K a) H Ω ds where
  go := fun i H' Ω' e hi => by
    obtain ⟨v, q, _⟩ := r.get (List.getElem?_eq_getElem hi)
    exact ⟨vs, v, (.inl (h.ext e).1), q⟩
  yld := fun i d H' Ω' x H'' e hd hy => by
    obtain ⟨z, hy⟩ := hy
    subst z
    obtain ⟨v, q, rv⟩ := (r.ext e).get hd
    have := hy vs (.inl (h.ext e).1)
    rw [q] at this
    cases this
    exact ⟨rv, .inl rfl⟩
  stop := fun H' Ω' e => ⟨vs, (.inl (h.ext e).1), by rw [r.length]; exact Nat.le_refl _⟩
theorem zN {a : Addr} {vs : List V} {ds : List D} (h : SqT K H a vs) (r : au K H Ω ds vs) : Yl K (Itt K a) H Ω ds where
  go := fun i H' Ω' e hi => by
    obtain ⟨v, q, _⟩ := r.get (List.getElem?_eq_getElem hi)
    exact ⟨vs, v, SqT.ext e h, q⟩
  yld := fun i d H' Ω' x H'' e hd hy => by
    obtain ⟨z, hy⟩ := hy
    subst z
    obtain ⟨v, q, rv⟩ := (r.ext e).get hd
    have := hy vs (SqT.ext e h)
    rw [q] at this
    cases this
    exact ⟨rv, .inl rfl⟩
  stop := fun H' Ω' e => ⟨vs, SqT.ext e h, by rw [r.length]; exact Nat.le_refl _⟩
noncomputable def b9 (lo : Int) (n : Nat) : List D := (List.range n).map fun (k : Nat) => D.int (lo + (k : Int))
theorem wa (lo : Int) (n : Nat) : Yl K (Itr lo n) H Ω (b9 lo n) where
  go := fun i H' Ω' e hi => by
    unfold b9 at hi
    rw [List.length_map, List.length_range] at hi
    exact hi
  yld := fun i d H' Ω' x H'' e hd hy => by
    obtain ⟨z, hy⟩ := hy
    subst z
    unfold b9 at hd
    rw [List.getElem?_map] at hd
    cases q : (List.range n)[i]? with
    | none => rw [q] at hd; cases hd
    | some k =>
      rw [q] at hd
      have hk : k = i := by
        obtain ⟨h1, h2⟩ := List.getElem?_eq_some_iff.mp q
        rw [List.getElem_range] at h2
        exact h2.symm
      subst hk
      cases hd
      exact ⟨hy, .inl rfl⟩
  stop := fun H' Ω' e => by
    unfold b9
    rw [List.length_map, List.length_range]
    exact Nat.le_refl n
theorem Ae {te : TE} {f : DM DV} (ha : DE K E te f) : DI K E (tU K te) (fIt f jE) := by
  intro σ H δ Ω R Q h
  refine ha.use R h fun a x δ1 H1 Ω1 _ s1 R1 r1 h1 => ?_
  cases a with
  | val d =>
    cases d with
    | lst ds =>
      obtain ⟨b, vs, e1, e2, e3⟩ := (show ∃ a vs, _ from r1)
      exact ⟨b, e1, ⟨vs, .inl e2.1⟩, h1 H1 Ω1 .refl R1 _ fun Ω2 z => zf (e2.less z) (e3.less z)⟩
    | _ => exact h1.elim
  | slot i => exact h1.elim
  | fld _ _ => exact h1.elim
  | own ds => exact h1.elim
theorem Ak {te : TE} {f : DM DV} (ha : DE K E te f) : DI K E (p9 K te) (fIt f mX) := by
  intro σ H δ Ω R Q h
  refine ha.use R h fun a x δ1 H1 Ω1 _ s1 R1 r1 h1 => ?_
  cases a with
  | val d =>
    cases d with
    | tup ds =>
      obtain ⟨b, vs, e1, e2, e3⟩ := (show ∃ a vs, _ from r1)
      exact ⟨b, e1, ⟨vs, e2⟩, h1 H1 Ω1 .refl R1 _ fun Ω2 z => zN e2 (e3.less z)⟩
    | _ => exact h1.elim
  | slot i => exact h1.elim
  | fld _ _ => exact h1.elim
  | own ds => exact h1.elim
noncomputable def iu (j : Int) : Bool := decide (-(2 ^ 62) ≤ j) && decide (j < 2 ^ 62)
noncomputable def dQ (fa : DM (List DV)) : DM (List D) := fa.bd fun as δ => match as with
  | [.val (.int j)] => if iu j then .ok (b9 0 j.toNat) δ else .un
  | _ => .un
theorem wG {t : TA} {fa : DM (List DV)} (ha : DA K E t fa) : DI K E (qX t) (dQ fa) := by
  intro σ H δ Ω R Q h
  refine ha.use R h fun as vs δ1 H1 Ω1 _ s1 R1 r1 h1 => ?_
  (try dsimp only at h1)
  split at h1
  · rename_i j
    split at h1
    · rename_i hj
      unfold iu at hj
      simp only [Bool.and_eq_true, decide_eq_true_eq] at hj
      obtain ⟨v, q, e1, e2, e3⟩ := r1
      cases (show q = [] from e3)
      cases (show v = .int j from e2)
      exact ⟨j, e1, hj.1, hj.2, h1 H1 Ω1 .refl R1 _ fun Ω2 z => wa 0 _⟩
    · exact h1.elim
  · exact h1.elim
noncomputable def under (Ω : Om) : Om := fun b => (Ω b).map fun _ => 0
noncomputable def back (Ω Ω' : Om) : Om := fun b => match Ω' b with
  | some 0 => Ω b
  | some 1 => some 1
  | _ => none
theorem eP {b : Addr} (h : Ω b = none) : under Ω b = none := by unfold under; rw [h]; rfl
theorem fm {b : Addr} {k : Nat} (h : Ω b = some k) : under Ω b = some 0 := by unfold under; rw [h]; rfl
theorem gU (b : Addr) (h : Ω' b = none) : back Ω Ω' b = none := by unfold back; rw [h]
theorem jx {b : Addr} (h : Ω' b = some 0) : back Ω Ω' b = Ω b := by unfold back; rw [h] <;> rfl
theorem jX {b : Addr} (h : Ω' b = some 1) : back Ω Ω' b = some 1 := by unfold back; rw [h] <;> rfl
theorem Ext.back (e : Ext H (under Ω) H' Ω') : Ext H Ω H' (back Ω Ω') where
  keep := fun b o q h => e.keep b o q (h.imp_right fun z => z.imp eP fm)
  new := fun b q h => gU b (e.new b (eP q) h)
  fr := fun b => by
    constructor
    · intro h
      rw [jx ((e.fr b).mp (fm h))]
      exact h
    · intro h
      unfold DL.back at h
      split at h
      · exact h
      · cases h
      · cases h
  live := e.live
theorem ar.back (R : ar K H Ω σ δ) (e : Ext H (under Ω) H' Ω') (ht : ∀ a k, Ω' a = some k → ∃ u, H' a = some u ∧ bB u = false) : ar K H' (back Ω Ω') σ δ := by
  refine R.ext e.back (fun b k vs q1 q2 => ⟨e.keep b _ q2 (.inr (.inr (fm q1))), by rw [jx ((e.fr b).mp (fm q1))]; exact q1⟩) fun a k q => ?_
  unfold DL.back at q
  split at q
  · rename_i z; exact ht a _ z
  · rename_i z; exact ht a _ z
  · cases q
inductive Ro where
  | un | er (c : Str) | ok (d : D) | own (ds : List D)
noncomputable def RoQ (K : PySem.W.Frag) (E : Str → Hp → Prop) (H : Hp) (Ω : Om) (Q : VK) : Ro → Prop
  | .un => False
  | .er c => ∀ H' Ω', Ext H Ω H' Ω' → Trk H' Ω' → E c H'
  | .ok d => ∀ H' Ω', Ext H Ω H' Ω' → Trk H' Ω' → ∀ v, Rep K H' Ω' d v → Q v H'
  | .own ds => ∀ H' Ω', Ext H Ω H' Ω' → Trk H' Ω' → ∀ v, cA K H' Ω' [] (.own ds) v → Q v H'
noncomputable def spP (K : PySem.W.Frag) (ce : Str → Value) (n : Nat) (M : List D → Ro) : Sp := fun vs H Q E => vs.length = n ∧ ∃ Ω ds, Trk H Ω ∧ (∀ b k, Ω b = some k → k = 0) ∧ au K H Ω ds vs ∧ RoQ K (fun c H' => E (ce c) none H') H Ω Q (M ds)
noncomputable def aR (n : Nat) (fa : DM (List DV)) (M : List D → Ro) : DM DV := fa.bd fun as δ => match bY as with
  | none => .un
  | some ds => if ds.length = n then (match M ds with
    | .un => .un
    | .er c => .er c
    | .ok d => .ok (.val d) δ
    | .own ds => .ok (.own ds) δ) else .un
theorem kR (t : Trk H Ω) : Trk H (under Ω) := fun a k q => by
  unfold under at q
  cases e : Ω a with
  | none => rw [e] at q; cases q
  | some j => exact t a j e
theorem oQ : ∀ b k, under Ω b = some k → k = 0 := fun b k q => by
  unfold under at q
  cases e : Ω b with
  | none => rw [e] at q; cases q
  | some j => rw [e] at q; cases q; rfl
theorem pE {ce : Str → Value} {n : Nat} {M : List D → Ro} {Ex : XK} {t : TA} {fa : DM (List DV)} (hE : ∀ c H', E c H' → Ex (ce c) none H') (ha : DA K E t fa) : DE K E (ji (spP K ce n M) [] Ex t) (aR n fa M) := by
  intro σ H δ Ω R Q h
  refine ha.use R h fun as vs δ1 H1 Ω1 _ s1 R1 r1 h1 => ?_
  (try dsimp only at h1)
  cases q1 : bY as with
  | none => rw [q1] at h1; exact h1.elim
  | some ds =>
    rw [q1] at h1
    dsimp only at h1
    split at h1
    · rename_i hn
      have r := r1.vals q1
      show spP K ce n M (vs ++ []) H1 Q Ex
      rw [List.append_nil]
      refine ⟨by rw [← r.length]; exact hn, under Ω1, ds, kR R1.trk, oQ, r.less fun b q => eP q, ?_⟩
      cases q3 : M ds with
      | un => rw [q3] at h1; exact h1
      | er c => rw [q3] at h1; exact fun H' Ω' e' t' => hE c H' (h1 H' _ e'.back (R1.back e' t').trk)
      | ok d => rw [q3] at h1; exact fun H' Ω' e' t' v rv => h1 H' _ e'.back (R1.back e' t') v (Rep.less gU rv)
      | own es =>
        rw [q3] at h1
        intro H' Ω' e' t' v ⟨a, ws, z1, z2, z3, z4⟩
        exact h1 H' _ e'.back (R1.back e' t') v ⟨a, ws, z1, z2, jX z3, z4.less gU⟩
    · exact h1.elim
noncomputable def iG (δ : DSt) (sel : List (Option Nat)) : DSt := sel.map fun o => match o with
  | none => .no
  | some j => match δ[j]? with | some (.sh d) => .sh d | _ => .no
noncomputable def bK (t : D → DSt → Option DSt) (fc : DM Bool) (fe : DM DV) : List D → DSt → List D → Option (List D)
  | [], _, out => some out
  | d :: ds, δ, out => match t d δ with
    | none => none
    | some δ1 => match fc δ1 with
      | .ok true δ2 => (match fN fe δ2 with
        | .ok (.val v) δ3 => if out.length < sizeLine then bK t fc fe ds δ3 (out ++ [v]) else none
        | _ => none)
      | .ok false δ2 => bK t fc fe ds δ2 out
      | _ => none
noncomputable def fLC (fi : DM (List D)) (t : D → DSt → Option DSt) (fc : DM Bool) (fe : DM DV) (sel : List (Option Nat)) : DM DV := fi.bd fun ds δ => match bK t fc fe ds (iG δ sel) [] with
  | some out => .ok (.own out) δ
  | none => .un
noncomputable def EN : Str → Hp → Prop := fun _ _ => False
theorem ar.eg (R : ar K H Ω σ δ) (sel : List (Option Nat)) (hl : ∀ b, Ω b = none → Ω' b = none) (ht : Trk H Ω') : ar K H Ω' (eg σ sel) (iG δ sel) := by
  refine ⟨by unfold L2.eg iG; rw [List.length_map, List.length_map], fun i s h => ?_, ht⟩
  unfold iG at h
  rw [List.getElem?_map] at h
  cases q : sel[i]? with
  | none => rw [q] at h; cases h
  | some o =>
    rw [q] at h
    cases o with
    | none => cases h; trivial
    | some j =>
      have h : (match δ[j]? with | some (.sh d) => Sl.sh d | _ => .no) = s := Option.some.inj h
      have e : (L2.eg σ sel)[i]? = some ((σ[j]?).join) := by unfold L2.eg; rw [List.getElem?_map, q]; rfl
      rw [e]
      split at h
      · rename_i d hd
        subst h
        obtain ⟨v, e1, e2⟩ := R.sl j _ hd
        exact ⟨v, e1, Rep.less hl e2⟩
      · subst h; trivial
theorem Ext.hide {p : Addr} (e : Ext H Ω H' Ω') (hp : Ω p = some 0) (hl : ∃ vs, H p = some vs ∧ bB vs = false) : Ext H (aQ Ω p 1) H' (aQ Ω' p 1) where
  keep := fun b o q h => by
    by_cases hb : b = p
    · subst hb
      exact e.keep b o q (.inr (.inr hp))
    · refine e.keep b o q ?_
      unfold aQ at h
      rw [if_neg hb] at h
      exact h
  new := fun b q h => by
    unfold aQ at q ⊢
    split at q
    · cases q
    · rename_i hb
      rw [if_neg hb]
      exact e.new b q h
  fr := fun b => by
    unfold aQ
    split
    · constructor <;> intro q <;> cases q
    · exact e.fr b
  live := e.live
theorem Ext.put {p : Addr} {o : HO} (hl : ∃ vs, H p = some vs ∧ bB vs = false) (hp : Ω p = some 1) : Ext H Ω (upd H p o) Ω where
  keep := fun b o' q h => by
    have hb : b ≠ p := by
      rintro rfl
      obtain ⟨vs, e, f⟩ := hl
      rw [e] at q
      cases q
      rcases h with h | h | h
      · rw [f] at h; cases h
      · rw [hp] at h; cases h
      · rw [hp] at h; cases h
    rw [aD hb]
    exact q
  new := fun _ q _ => q
  fr := fun _ => Iff.rfl
  live := fun b q => by
    unfold upd at q
    split at q
    · cases q
    · exact q
theorem og {p : Addr} {xs : List V} (hl : ∃ vs, H p = some vs ∧ bB vs = false) : Ext H (aQ Ω p 1) (upd H p (.lst xs)) (aQ Ω p 1) := .put hl (by unfold aQ; rw [if_pos rfl])
theorem ox {p : Addr} (hp : Ω p ≠ none) : ∀ b, Ω b = none → aQ Ω p 1 b = none := fun b q => by
  unfold aQ
  rw [if_neg]
  · exact q
  · rintro rfl; exact hp q
theorem nX {p : Addr} : ∀ b, aQ Ω p 1 b = none → Ω b = none := fun b q => by
  unfold aQ at q
  split at q
  · cases q
  · exact q
theorem Rep.put {p : Addr} {xs : List V} {d : D} {v : V} (h : Rep K H Ω d v) (hl : ∃ vs, H p = some vs ∧ bB vs = false) (hp : Ω p ≠ none) : Rep K (upd H p (.lst xs)) Ω d v :=
  Rep.less nX ((Rep.less (ox hp) h).ext (og hl))
theorem au.put {p : Addr} {xs : List V} {ds : List D} {vs : List V} (h : au K H Ω ds vs) (hl : ∃ vs, H p = some vs ∧ bB vs = false) (hp : Ω p ≠ none) : au K (upd H p (.lst xs)) Ω ds vs :=
  au.less nX ((au.less (ox hp) h).ext (og hl))
theorem ar.put {p : Addr} {xs : List V} (R : ar K H Ω σ δ) (hp : Ω p = some 0 ∨ Ω p = some 1) : ar K (upd H p (.lst xs)) Ω σ δ := by
  have hl : ∃ vs, H p = some vs ∧ bB vs = false := hp.elim (R.trk p 0) (R.trk p 1)
  have hp' : Ω p ≠ none := by rcases hp with z | z <;> (rw [z]; exact Option.some_ne_none _)
  refine ⟨R.len, fun i s h => ?_, fun a k q => ?_⟩
  · refine (R.sl i s h).mv (fun _ _ z => z.put hl hp') (fun _ _ z => z.put hl hp') fun a ws e3 e2 => ?_
    have ha : a ≠ p := by rintro rfl; rcases hp with z | z <;> (rw [z] at e3; cases e3)
    exact ⟨by rw [aD ha]; exact e2, e3⟩
  · by_cases ha : a = p
    · subst ha; exact ⟨_, aT, rfl⟩
    · obtain ⟨ws, e, f⟩ := R.trk a k q
      exact ⟨ws, by rw [aD ha]; exact e, f⟩
theorem ar.relabel (R : ar K H Ω σ δ) (h0 : ∀ b, Ω b = none → Ω' b = none) (h2 : ∀ b k, Ω b = some (k + 2) → Ω' b = some (k + 2)) (ht : Trk H Ω') : ar K H Ω' σ δ :=
  ⟨R.len, fun i s h => (R.sl i s h).mv (fun _ _ => Rep.less h0) (fun _ _ => au.less h0) fun a ws e3 e2 => ⟨e2, h2 a i e3⟩, ht⟩
theorem ue {p : Addr} {k : Nat} (t : Trk H Ω) (hl : ∃ vs, H p = some vs ∧ bB vs = false) : Trk H (aQ Ω p k) := fun a j q => by
  by_cases ha : a = p
  · subst ha; exact hl
  · unfold aQ at q
    rw [if_neg ha] at q
    exact t a j q
theorem uj {wi : TI} {g : TG} {ts : TT} {te : TE} {sel : List (Option Nat)} {fi : DM (List D)} {t : D → DSt → Option DSt} {fc : DM Bool} {fe : DM DV} (hi : DI K E wi fi) (hg : DG K [] g t) (hc : DT K EN ts fc) (he : DE K EN te fe) :
    DE K E (tLC wi g ts te sel) (fLC fi t fc fe sel) := by
  intro σ H δ Ω R Q h
  refine hi σ H δ Ω R _ (Wg.bd h fun ds δ1 H1 Ω1 _ h1 R1 J YY p hp => ?_)
  have Y := YY (under Ω1) fun _ z => eP z
  have he := he.norm
  (try dsimp only at h1)
  cases hres : bK t fc fe ds (iG δ1 sel) [] with
  | none => rw [hres] at h1; exact h1.elim
  | some rs =>
    rw [hres] at h1
    have R0 : ar K (upd H1 p (.lst [])) (aQ (bZ (under Ω1) p) p 0) (eg σ sel) (iG δ1 sel) := by
      have r1 := (R1.eg sel (Ω' := under Ω1) (fun b q => eP q) (kR R1.trk)).alloc1 (xs := []) hp
      refine r1.relabel (fun b q => ?_) (fun b k q => ?_) (ue r1.trk ⟨_, aT, rfl⟩)
      · unfold aQ
        rw [if_neg]
        · exact q
        · rintro rfl
          unfold bZ at q
          rw [if_pos rfl] at q
          cases q
      · unfold aQ
        rw [if_neg]
        · exact q
        · rintro rfl
          unfold bZ at q
          rw [if_pos rfl] at q
          cases q
    have o0 : aQ (bZ (under Ω1) p) p 0 p = some 0 := by unfold aQ; rw [if_pos rfl]
    have e0 : Ext H1 (under Ω1) (upd H1 p (.lst [])) (aQ (aQ (bZ (under Ω1) p) p 0) p 1) := by
      have q : aQ (aQ (bZ (under Ω1) p) p 0) p 1 = bZ (under Ω1) p := by
        funext b
        unfold aQ bZ
        split <;> rfl
      rw [q]
      exact .alloc1 hp (kR R1.trk)
    refine ⟨fun i m σ' H' => m = ds.length - i ∧ i ≤ ds.length ∧ ∃ δ' Ω' out ws, ar K H' Ω' σ' δ' ∧ Ω' p = some 0 ∧ H' p = some (.lst ws) ∧ au K H' Ω' out ws ∧ Ext H1 (under Ω1) H' (aQ Ω' p 1) ∧ bK t fc fe (ds.drop i) δ' out = some rs,
      ⟨_, rfl, Nat.zero_le _, _, _, [], [], R0, o0, aT, .nil, e0, hres⟩, ?_⟩
    rintro i m σ' H' ⟨rfl, hl, δ', Ω', out, ws, R', op, hw, rw', e', w⟩
    have t' : Trk H' (aQ Ω' p 1) := ue R'.trk ⟨_, hw, rfl⟩
    have np : ∀ b, Ω' b = none → aQ Ω' p 1 b = none := ox (by rw [op]; exact Option.some_ne_none _)
    by_cases hlt : i < ds.length
    · refine .inr ⟨Y.go i H' _ e' hlt, fun σ2 H2 => ∃ δ' Ω' out ws, ar K H2 Ω' σ2 δ' ∧ Ω' p = some 0 ∧ H2 p = some (.lst ws) ∧ au K H2 Ω' out ws ∧ Ext H1 (under Ω1) H2 (aQ Ω' p 1) ∧ bK t fc fe (ds.drop (i + 1)) δ' out = some rs,
        fun σ2 H2 h2 => ⟨_, by omega, rfl, hlt, h2⟩, fun x H2 hy => ?_⟩
      obtain ⟨d, hd⟩ : ∃ d, ds[i]? = some d := ⟨ds[i], List.getElem?_eq_getElem hlt⟩
      obtain ⟨rx, hH⟩ := Y.yld i d H' _ x H2 e' hd hy
      have R2 : ar K H2 Ω' σ' δ' := by
        rcases hH with z | ⟨q, xs, hq, z⟩
        · rw [z]; exact R'
        · rw [z]; exact R'.alloc hq
      have e2 : Ext H' Ω' H2 Ω' := by
        rcases hH with z | ⟨q, xs, hq, z⟩
        · rw [z]; exact .refl
        · rw [z]; exact .alloc hq R'.trk
      rw [drop_cons hd] at w
      unfold bK at w
      cases q : t d δ' with
      | none => rw [q] at w; cases w
      | some δ3 =>
        rw [q] at w
        dsimp only at w
        refine hg σ' H2 δ' Ω' d x δ3 R2 (Rep.less nX rx) q _ fun σ3 R3 _ => ?_
        refine hc σ3 H2 δ3 Ω' R3 _ ?_
        cases q4 : fc δ3 with
        | un => rw [q4] at w; cases w
        | er c => rw [q4] at w; cases w
        | ok b δ4 =>
          rw [q4] at w
          intro H4 Ω4 e4 R4
          have e24 := e2.trans e4
          have op4 : Ω4 p = some 0 := (e24.fr p).mp op
          have hw4 : H4 p = some (.lst ws) := e24.keep p _ hw (.inr (.inr op))
          cases b with
          | false =>
            refine j8 ?_
            exact ⟨δ4, Ω4, out, ws, R4, op4, hw4, rw'.ext e24, e'.trans (e24.hide op ⟨_, hw, rfl⟩), w⟩
          | true =>
            refine ke ?_
            dsimp only at w
            refine he σ3 H4 δ4 Ω4 R4 _ ?_
            cases q5 : fN fe δ4 with
            | un => rw [q5] at w; cases w
            | er c => rw [q5] at w; cases w
            | ok z δ5 =>
              rw [q5] at w
              cases z with
              | slot j => cases w
              | fld _ _ => cases w
              | own es => cases w
              | val v =>
                dsimp only at w
                split at w
                · rename_i hz
                  intro H5 Ω5 e5 R5 x5 r5
                  have e25 := e24.trans e5
                  have op5 : Ω5 p = some 0 := (e25.fr p).mp op
                  have hw5 : H5 p = some (.lst ws) := e25.keep p _ hw (.inr (.inr op))
                  have hn5 : Ω5 p ≠ none := by rw [op5]; exact Option.some_ne_none _
                  refine ⟨ws, hw5, by rw [← rw'.length]; exact hz, δ5, Ω5, out ++ [v], ws ++ [x5], R5.put (.inl op5), op5, aT, ?_, ?_, w⟩
                  · exact (((rw'.ext e25).append (.cons r5 .nil))).put ⟨_, hw5, rfl⟩ hn5
                  · exact (e'.trans (e25.hide op ⟨_, hw, rfl⟩)).trans (og ⟨_, hw5, rfl⟩)
                · cases w
    · have hil : i = ds.length := by omega
      subst hil
      rw [List.drop_length] at w
      cases w
      refine .inl ⟨Y.stop H' _ e', h1 H' _ e'.back (R1.back e' t') _ ⟨p, ws, rfl, hw, jX (by unfold aQ; rw [if_pos rfl]), rw'.less fun b q => gU b (np b q)⟩⟩
end
end DL
namespace L2
open PySem PySem.Spec PyProof.Rows
section
variable {X : Cx}
noncomputable def qG : R2 := fun x y H Q => ∃ l b xs zs, x = .ref l ∧ y = .ref b ∧ Rd H l (.lst xs) ∧ Rd H b (.lst zs) ∧ xs.length + zs.length ≤ sizeLine ∧ ∀ p, H p = none → Q (.ref p) (upd H p (.lst (xs ++ zs)))
theorem Inv.plain {pins : List (Addr × Obj)} {σ : St} {H : Hp} {s : Shared} {a : Addr} {xs : List V} (I : Inv X pins σ H s) (h : Rd H a (.lst xs)) :
    ∃ (its : List Value) (n : Nat), Vals xs its ∧ s.heap.get? a = some { cls := .type "list", data := .seq its.toArray n } ∧ xs.length ≤ sizeLine := by
  obtain ⟨z, its, n, r, e⟩ := (show bL X.prog X.w H s.heap a (.lst xs) from h.ok I.hok)
  exact ⟨its, n, r, e, z⟩
theorem yP : OpR X (binaryOp .Add) qG := by
  intro pins s σ H x y v u Q I rx ry h
  obtain ⟨l, b, xs, zs, rfl, rfl, hH, hB, hz, q⟩ := h
  cases rx
  cases ry
  obtain ⟨its, n, r, e, z⟩ := I.plain hH
  obtain ⟨its2, n2, r2, e2, z2⟩ := I.plain hB
  have hl := r.length
  have hl2 := r2.length
  refine PySem.P.add_list e e2 ?_ (by rw [List.size_toArray, List.size_toArray]; omega)
  have ea : its.toArray ++ its2.toArray = (its ++ its2).toArray := by simp
  rw [ea]
  exact ⟨.ref _, _, I.lnew (t' := s.toks) (r.append r2) (by rw [List.length_append]; omega), rfl, q _ I.fresh⟩
inductive TyD (K : PySem.W.Frag) (H : Hp) : V → String → Prop where
  | non : TyD K H .non "NoneType"
  | bl (x : Bool) : TyD K H (.bl x) "bool"
  | int (i : Int) : TyD K H (.int i) "int"
  | str (x : Str) : TyD K H (.str x) "str"
  | lst {a : Addr} {xs : List V} (e : SqL K H a xs) : TyD K H (.ref a) "list"
  | tup {a : Addr} {xs : List V} (e : SqT K H a xs) : TyD K H (.ref a) "tuple"
theorem vD : el X (.builtin "isinstance") (fun xs H Q => ∃ x T t b, xs = [x, .ty T] ∧ TyD X.K H x t ∧ PySem.W.kitOne X.K (.type t) (.type T) = some b ∧ Q (.bl b) H) := by
  intro pins s σ H xs us Q I r h
  obtain ⟨x, T, t, b, rfl, ty, e, q⟩ := h
  obtain ⟨u, c, rfl, rx, rc⟩ := vals2 r
  cases rc
  have fin : ∀ tk, EP X pins σ Q (.bool b) { s with toks := tk } := fun tk => ⟨.bl b, H, I.tok tk, rfl, q⟩
  cases ty with
  | non => cases (show u = Value.none from rx); exact PySem.W.kia_one PySem.W.kitx_none I.kIn True.intro e (fun z => nomatch z) fin
  | bl y => cases (show u = Value.bool y from rx); exact PySem.W.kia_one PySem.W.kitx_bool I.kIn True.intro e (fun z => nomatch z) fin
  | int i => obtain ⟨t, z⟩ := (show ∃ t, u = Value.int i t from rx); cases z; exact PySem.W.kia_one PySem.W.kitx_int I.kIn True.intro e (fun z => nomatch z) fin
  | str y => obtain ⟨t, z⟩ := (show ∃ t, u = Value.str y t from rx); cases z; exact PySem.W.kia_one PySem.W.kitx_str I.kIn True.intro e (fun z => nomatch z) fin
  | @lst a ys ea =>
    cases (show u = Value.ref a from rx)
    obtain ⟨its, _, ⟨o, n, h1, h2, _⟩, _⟩ := I.list ea
    exact PySem.W.kia_one PySem.W.kitx_list I.kIn ⟨o, h1, h2⟩ e (fun z => nomatch z) fin
  | @tup a ys ea =>
    cases (show u = Value.ref a from rx)
    obtain ⟨its, _, ⟨o, h1, h2, _⟩, _⟩ := I.tuple ea
    exact PySem.W.kia_one PySem.W.kitx_tuple I.kIn ⟨o, h1, h2⟩ e (fun z => nomatch z) fin
end
end L2
namespace L2
open PySem PySem.Spec PyProof.Rows
section
variable {X : Cx}
end
end L2
namespace L2
open PySem PySem.Spec PyProof.Rows
section
variable {X : Cx}
theorem Bm {bs : List Bool} {its : List Value} (r : Vals (bs.map V.bl) its) : ∀ (i : Nat) (v : Value), its.toArray[i]? = some v → v = .bool (bs.getD i false) := by
  induction bs generalizing its with
  | nil => cases r; intro i v h; simp at h
  | cons n ns ih =>
    cases r with
    | cons r1 r2 =>
      cases r1
      intro i v h
      cases i with
      | zero => simpa using h.symm
      | succ i => simpa using ih r2 i v (by simpa using h)
theorem vK {α : Type} (bs : List α) (d : α) (p : (Nat → Bool) → Prop) : (List.range bs.length).map (fun i => bs.getD i d) = bs := by
  apply List.ext_getElem?
  intro i
  rw [List.getElem?_map]
  by_cases h : i < bs.length
  · rw [List.getElem?_range h, List.getElem?_eq_getElem h]
    simp [List.getD_eq_getElem?_getD, List.getElem?_eq_getElem h]
  · rw [List.getElem?_eq_none (by simpa using h), List.getElem?_eq_none (by simpa using h)]
    rfl
theorem range_all (bs : List Bool) : (List.range bs.length).all (fun i => bs.getD i false) = bs.all id := by
  have h := congrArg (fun l => List.all l id) (vK bs false (fun _ => True))
  simpa [List.all_map] using h
theorem Ar (hc : X.calm = true) : el X (.builtin "all") (fun xs H Q => ∃ (p : Addr) (bs : List Bool), xs = [.ref p] ∧ SqL X.K H p (bs.map V.bl) ∧ Q (.bl (bs.all id)) H) := by
  intro pins s σ H xs us Q I r h
  obtain ⟨p, bs, rfl, hq, q⟩ := h
  obtain ⟨u, rfl, rx⟩ := vals1 r
  cases rx
  obtain ⟨its, rv, pl, hz⟩ := I.list hq
  have hlt : p < s.heap.objs.size := by obtain ⟨o, e, _⟩ := pl.isList; exact Heap.lt_size e
  have hl : bs.length = its.toArray.size := by
    have := rv.length
    rw [List.length_map] at this
    rw [List.size_toArray]; exact this
  refine call_all_walk (wpAny_pyIter_list pl.isList ?_)
  refine ⟨s.heap.objs.size, [s.heap.objs.size, p], [s.heap.objs.size], _, _, _, fun i => bs.getD i false, rfl, Walks.list (A := X.A.in1) (I.ok.hd hc) _ p (Nat.ne_of_lt hlt) its.toArray, ⟨⟨_, Heap.get?_push_size _ rfl, rfl, rfl⟩, pl.isList.push _⟩, ?_, fun h' tk hk => ?_⟩
  · intro i v s Q E hP hQ
    rw [Bm rv i v hP]
    exact wpAny_truthy_bool hQ
  · rw [← hl, range_all]
    exact ⟨.bl (bs.all id), H, I.kept (old_kept hk), rfl, q⟩
theorem wQ : OpR X (binaryOp .Mult) (fun x y H Q => ∃ z k, x = .str z ∧ y = .int k ∧ MulOk z k ∧ Q (.str (Txt.mul z k)) H) := by
  intro pins s σ H x y v u Q I rx ry h
  obtain ⟨z, k, rfl, rfl, ok, q⟩ := h
  obtain ⟨t, rfl⟩ := rx
  obtain ⟨t', rfl⟩ := ry
  exact SB.mul ok fun t2 k2 => ⟨.str _, H, I.tok k2, ⟨_, rfl⟩, q⟩
noncomputable def zj : R2 := fun x y H Q => ∃ l k xs, x = .ref l ∧ y = .int k ∧ Rd H l (.lst xs) ∧ -(2 ^ 63) ≤ k ∧ k < 2 ^ 63 ∧ xs.length * k.toNat ≤ sizeLine ∧
  ∀ p, H p = none → Q (.ref p) (upd H p (.lst (List.replicate k.toNat xs).flatten))
theorem vP : OpR X (binaryOp .Mult) zj := by
  intro pins s σ H x y v u Q I rx ry h
  obtain ⟨l, k, xs, rfl, rfl, hH, h1, h2, hz, q⟩ := h
  cases rx
  obtain ⟨t, rfl⟩ := ry
  obtain ⟨its, n, r, e, z⟩ := I.plain hH
  have hl := r.length
  have hlen : its.toArray.size * k.toNat ≤ sizeLine := by rw [List.size_toArray, ← hl]; exact hz
  have hcap : ¬ its.toArray.size * k.toNat > (2 ^ 63 - 1) / 8 := by
    have : (sizeLine : Nat) ≤ (2 ^ 63 - 1) / 8 := by decide
    omega
  have hfit : ¬ (!Builtin.List.listFitsIndex k) = true := by
    rw [fitsIndex_both h1 h2]
    exact Bool.false_ne_true
  have hlong : ¬ Builtin.List.listTooLong (its.toArray.size * k.toNat) = true := by
    rw [xn hlen]
    exact Bool.false_ne_true
  have hnew : List.foldl (fun x1 x2 => x1 ++ x2) #[] (List.replicate (if its.toArray.isEmpty = true then 0 else k.toNat) its.toArray) = (List.replicate k.toNat its).flatten.toArray := by
    have f0 : ∀ m : Nat, List.foldl (fun x1 x2 => x1 ++ x2) #[] (List.replicate m its.toArray) = (List.replicate m its).flatten.toArray := fun m => by
      have := foldl_rep its m []
      rw [List.nil_append] at this
      exact this
    rw [f0]
    cases its with
    | nil => simp
    | cons a r' => rw [if_neg (by simp)]
  refine wpAny_binaryOp_repeat_ref (T := "list") (U := "int") (by decide) ⟨_, e, rfl⟩ (fun s' => typeIs_int s' k t) noFill_list_mul F.fills_int_mul F.slot_int_rmul repeat_list F.slot_int_index.lookup
    (call_meets F.slot_int_rmul (typeIs_int s k t) F.entry_int_rmul (F.args_int_rmul_2 _ _) (int___rmul___int_list k t l its.toArray n)
      ⟨e, rfl, ⟨_, e, rfl⟩, call_meets F.slot_list_mul ⟨_, e, rfl⟩ F.entry_list_mul (F.args_list_mul_2 _ _) (AutoListH.list___mul___list_int_3 l its.toArray n k t hfit hcap hlong) ⟨e, ?_⟩⟩)
  rw [hnew]
  exact ⟨.ref _, _, I.lnew (t' := s.toks) (r.rep k.toNat) (by rw [len_rep, Nat.mul_comm]; exact hz), rfl, q _ I.fresh⟩
end
end L2
namespace PySem
open AutoSeq1 (wpAny_loadPart')
set_option maxRecDepth 100000
section
variable {prog : Program} {w : World} {A : Around} {E : Value → Shared → Prop} {s : Shared}
end
end PySem
namespace L2
open PySem PySem.Spec PyProof.Rows
section
variable {X : Cx} {pins : List (Addr × Obj)} {σ : List (Option V)} {H : Hp} {s : Shared} {h' : Heap}
end
section
variable {X : Cx}
end
end L2
namespace DL
open PySem PySem.Spec PyProof.Rows L2
noncomputable def bV (body : DM Fl) (n : Nat) (ds : List D) : Ro := match body (ds.map .sh ++ List.replicate (n - ds.length) .no) with
  | .ok (.rt d) _ => .ok d
  | .ok (.rto es) _ => .own es
  | .ok .nx _ => .ok .non
  | _ => .un
section
variable {P : Program} {w : World} {K : PySem.W.Frag} {mg : Str → Option Value} {base : Heap} {H : Hp} {Ω : Om}
theorem ar.start {N : List Str} {ds : List D} {vs : List V} (hr : au K H Ω ds vs) (ht : Trk H Ω) : ar K H Ω (L2.start N vs) (ds.map .sh ++ List.replicate (N.length - ds.length) .no) := by
  have hl := hr.length
  refine ⟨by unfold L2.start; rw [List.length_append, List.length_append, List.length_map, List.length_map, List.length_replicate, List.length_replicate, hl], fun i s h => ?_, ht⟩
  by_cases hi : i < ds.length
  · rw [List.getElem?_append_left (by rw [List.length_map]; exact hi), List.getElem?_map] at h
    obtain ⟨d, hd⟩ : ∃ d, ds[i]? = some d := ⟨ds[i], List.getElem?_eq_getElem hi⟩
    rw [hd] at h
    cases h
    obtain ⟨v, hv, r⟩ := hr.get hd
    refine ⟨v, ?_, r⟩
    unfold L2.start
    rw [List.getElem?_append_left (by rw [List.length_map, ← hl]; exact hi), List.getElem?_map, hv]
    rfl
  · rw [List.getElem?_append_right (by rw [List.length_map]; omega), List.getElem?_replicate] at h
    split at h
    · cases h; trivial
    · cases h
theorem fnP {ce : Str → Value} {x qual : Str} {st : Stmt} {f : Addr} {fd : FuncData} {N ps : List Str} {k : Nat} {body : DM Fl} (F : Fun K x qual st f fd) (S : br N ps (aH st))
    (hb : ∀ (cdv : Value) (A : Around) (outer : List Env) (s : Shared) (H : Hp) (E : XK), aU k (A.deeper (envOfC qual (aH st) s.heap.objs.size f cdv)) →
      dN (bJ CX0 P w K mg base N qual (aH st) f cdv A outer s H E).nox EN [] (bo st) body) : aO P w K mg base CX0 (k + 1) f fd ps (spP K ce ps.length (bV body N.length)) := by
  refine F.ok S (fun vs H Q E h => h.1) (fun cdv A outer s H vs Q E hr h => ?_)
  obtain ⟨ts, p, d⟩ := hb cdv A outer s H E hr
  refine ⟨ts, p, ?_⟩
  obtain ⟨hl, Ω, ds, ht, h0, hr, hq⟩ := h
  refine d (L2.start N vs) H _ Ω (ar.start hr ht) _ ?_
  unfold bV at hq
  cases e : body (ds.map .sh ++ List.replicate (N.length - ds.length) .no) with
  | un => rw [e] at hq; exact hq
  | er c => rw [e] at hq; exact hq.elim
  | ok fl δ' =>
    rw [e] at hq
    cases fl with
    | nx => exact fun H' Ω' ex σ' R' _ => hq H' Ω' ex R'.trk .non rfl
    | bk => exact hq.elim
    | ct => exact hq.elim
    | rt d => exact fun H' Ω' ex σ' R' _ v r => hq H' Ω' ex R'.trk v r
    | rto es => exact fun H' Ω' ex σ' R' _ v r => hq H' Ω' ex R'.trk v r
end
section
variable {X : Cx} {E : Str → Hp → Prop} {pos : Pos} {a b c e : Expr} {f g : DM DV} {mp : List Nat}
theorem ag (i : Nat) {x : Str} (hN : X.N[i]? = some x := by rfl) (hv : Vis X.env.scope x := by first | exact Or.inl rfl | exact Or.inr (Or.inl rfl) | exact Or.inr (Or.inr rfl)) (hd : (x == ("__debug__" : Str)) = false := by decide)
    (hcd : (x == ("__classdict__" : Str)) = false := by decide) : PED X E (.Name x pos) (aa i) := ⟨_, pv i hN hv hd hcd, zE⟩
theorem aw {i j} : PED X E (.Constant (.int i) j pos) (fC (.int i)) := ⟨_, wt, kK fun _ _ => rfl⟩
theorem dq {i j} : PED X E (.Constant (.bool i) j pos) (fC (.bl i)) := ⟨_, uB, kK fun _ _ => rfl⟩
theorem fq {j} : PED X E (.Constant .none j pos) (fC .non) := ⟨_, uO, kK fun _ _ => rfl⟩
theorem bg {x j} : PED X E (.Constant (.str x) j pos) (fC (.str x)) := ⟨_, mm, kK fun _ _ => rfl⟩
noncomputable def ki (K : PySem.W.Frag) (mg : Str → Option Value) (x : Str) (d : D) : Prop := ∃ u v, mg x = some u ∧ RelV v u ∧ ∀ H Ω, Rep K H Ω d v
theorem nA {x : Str} {d : D} (hm : ki X.K X.mg x d) (hg : Gl X x := by rfl) (hd : (x == ("__debug__" : Str)) = false := by decide) : PED X E (.Name x pos) (fC d) := by
  obtain ⟨u, v, h1, h2, h3⟩ := hm
  exact ⟨_, ez hg h1 h2 hd, kK h3⟩
noncomputable def gH (i j : Int) : Bool := (decide (-18446744073709551616 < i) && decide (i < 18446744073709551616)) || (decide (-18446744073709551616 < j) && decide (j < 18446744073709551616))
theorem yh {i j : Int} (h : gH i j = true) : kL i j := by
  unfold gH at h
  unfold kL
  simpa using h
noncomputable def cdiv (j : Int) : Bool := decide (0 < j) && decide (j < 1073741824)
noncomputable def bj : D → D → Option DV
  | .int i, .int j => some (.val (.int (i + j)))
  | .str x, .str y => if x.length + y.length ≤ sizeLine then some (.val (.str (x ++ y))) else none
  | .lst xs, .lst ys => if xs.length + ys.length ≤ sizeLine then some (.own (xs ++ ys)) else none
  | _, _ => none
noncomputable def cV : D → D → Option DV
  | .int i, .int j => some (.val (.int (i - j)))
  | _, _ => none
noncomputable def kW (n : Nat) (k : Int) : Bool := decide (-(2 ^ 62) ≤ k) && decide (k < 2 ^ 62) && decide (n * k.toNat ≤ sizeLine)
theorem vc {z : Str} {k : Int} (h : kW z.length k = true) : MulOk z k := by
  unfold kW at h
  simp only [Bool.and_eq_true, decide_eq_true_eq] at h
  obtain ⟨⟨h1, h2⟩, h3⟩ := h
  refine ⟨?_, ?_, ?_⟩
  · rw [decide_eq_false (by omega), decide_eq_false (by omega)]; rfl
  · intro hk _
    have hs : sizeLine ≤ 2 ^ 62 := by decide
    have h4 : (z.length : Int) * k ≤ 2 ^ 63 - 1 := by
      have e : ((z.length * k.toNat : Nat) : Int) = (z.length : Int) * k := by
        rw [Int.natCast_mul, Int.toNat_of_nonneg (by omega)]
      omega
    have : (z.length : Int) ≤ (2 ^ 63 - 1) / k := Int.le_ediv_of_mul_le (by omega) h4
    omega
  · intro _ _
    (show Builtin.Str.tooLong _ = false); unfold Builtin.Str.tooLong; exact decide_eq_false (by omega)
noncomputable def eM : D → D → Option DV
  | .int i, .int j => if gH i j then some (.val (.int (i * j))) else none
  | .str z, .int k => if kW z.length k then some (.val (.str (Txt.mul z k))) else none
  | .lst ds, .int k => if kW ds.length k then some (.own (List.replicate k.toNat ds).flatten) else none
  | _, _ => none
noncomputable def ej : D → D → Option DV
  | .int i, .int j => if cdiv j then some (.val (.int (i / j))) else none
  | _, _ => none
noncomputable def bD : D → D → Option DV
  | .int i, .int j => if decide (0 < j) then some (.val (.int (i % j))) else none
  | _, _ => none
theorem dv {K : PySem.W.Frag} {H : Hp} {Ω : Om} {ds : List D} {v : V} (h : cm K H Ω (.lst ds) v) : ∃ a vs, v = .ref a ∧ Rd H a (.lst vs) ∧ au K H Ω ds vs := h
theorem dY {K : PySem.W.Frag} {H : Hp} {Ω : Om} {ds : List D} {v : V} (h : cm K H Ω (.tup ds) v) : ∃ a vs, v = .ref a ∧ SqT K H a vs ∧ au K H Ω ds vs := (show ∃ a vs, _ from h)
theorem yt {K : PySem.W.Frag} : DR K (fun x y H Q => rI0 (fun i j => .int (i + j)) x y H Q ∨ (∃ i j, x = .str i ∧ y = .str j ∧ i.length + j.length ≤ sizeLine ∧ Q (.str (i ++ j)) H) ∨ qG x y H Q) bj := by
  intro E σ H δ Ω x y d1 d2 z Q R r1 r2 hz h
  unfold bj at hz
  split at hz
  · cases hz
    exact .inl ⟨_, _, r1, r2, h.now R rfl⟩
  · split at hz
    · rename_i hl
      cases hz
      exact .inr (.inl ⟨_, _, r1, r2, hl, h.now R rfl⟩)
    · cases hz
  · split at hz
    · rename_i hl
      cases hz
      obtain ⟨a, vs, e1, e2, e3⟩ := dv r1
      obtain ⟨b, ws, q1, q2, q3⟩ := dv r2
      refine .inr (.inr ⟨a, b, vs, ws, e1, q1, e2, q2, by rw [← e3.length, ← q3.length]; exact hl, fun p hp => h.alloc1 R hp (e3.append q3)⟩)
    · cases hz
  · cases hz
noncomputable def iz (X : Cx) (op : Operator) (gg : D → D → Option DV) : Prop := ∃ r, OpR X (binaryOp op) r ∧ DR X.K r gg
theorem da : iz X .Add bj := ⟨_, vT.or (u0.or yP), yt⟩
theorem ig : iz X .Sub cV := ⟨_, zd, by
  intro E σ H δ Ω x y d1 d2 z Q R r1 r2 hz h
  unfold cV at hz
  split at hz
  · cases hz; exact ⟨_, _, r1, r2, h.now R rfl⟩
  · cases hz⟩
theorem au.rep {K : PySem.W.Frag} {H : Hp} {Ω : Om} {ds : List D} {vs : List V} (r : au K H Ω ds vs) : ∀ k : Nat, au K H Ω (List.replicate k ds).flatten (List.replicate k vs).flatten
  | 0 => .nil
  | k + 1 => by
    rw [List.replicate_succ, List.replicate_succ, List.flatten_cons, List.flatten_cons]
    exact r.append (au.rep r k)
theorem kN : iz X .Mult eM := ⟨_, uQ.or (wQ.or vP), by
  intro E σ H δ Ω x y d1 d2 z Q R r1 r2 hz h
  unfold eM at hz
  split at hz
  · split at hz
    · rename_i hc
      cases hz; exact .inl ⟨_, _, r1, r2, yh hc, h.now R rfl⟩
    · cases hz
  · split at hz
    · rename_i hc
      cases hz; exact .inr (.inl ⟨_, _, r1, r2, vc hc, h.now R rfl⟩)
    · cases hz
  · split at hz
    · rename_i hc
      cases hz
      obtain ⟨a, vs, e1, e2, e3⟩ := dv r1
      unfold kW at hc
      simp only [Bool.and_eq_true, decide_eq_true_eq] at hc
      exact .inr (.inr ⟨a, _, vs, e1, r2, e2, by omega, by omega, by rw [← e3.length]; exact hc.2, fun p hp => h.alloc1 R hp (e3.rep _)⟩)
    · cases hz
  · cases hz⟩
theorem gD : iz X .FloorDiv ej := ⟨_, xa, by
  intro E σ H δ Ω x y d1 d2 z Q R r1 r2 hz h
  unfold ej at hz
  split at hz
  · split at hz
    · rename_i hc
      cases hz
      unfold cdiv at hc
      exact ⟨_, _, r1, r2, (by simpa using hc : _ ∧ _), h.now R rfl⟩
    · cases hz
  · cases hz⟩
theorem cT : iz X .Mod bD := ⟨_, yo, by
  intro E σ H δ Ω x y d1 d2 z Q R r1 r2 hz h
  unfold bD at hz
  split at hz
  · split at hz
    · rename_i hc
      cases hz
      exact ⟨_, _, r1, r2, by simpa using hc, h.now R rfl⟩
    · cases hz
  · cases hz⟩
theorem aN {op : Operator} {gg : D → D → Option DV} (ho : iz X op gg) (ha : PED X E a f) (hb : PED X E b g) : PED X E (.BinOp a op b pos) (af f g gg) := by
  obtain ⟨r, h1, h2⟩ := ho
  obtain ⟨ta, p1, d1⟩ := ha
  obtain ⟨tb, p2, d2⟩ := hb
  exact ⟨_, vj h1 p1 p2, oS h2 d1 d2⟩
noncomputable def bU (p : Int → Int → Bool) : D → D → Option DV
  | .int i, .int j => some (.val (.bl (p i j)))
  | _, _ => none
theorem pf {K : PySem.W.Frag} {p : Int → Int → Bool} : DR K (rI0 fun i j => .bl (p i j)) (bU p) := by
  intro E σ H δ Ω x y d1 d2 z Q R r1 r2 hz h
  unfold bU at hz
  split at hz
  · cases hz; exact ⟨_, _, r1, r2, h.now R rfl⟩
  · cases hz
noncomputable def lt (i j : Int) : Bool := decide (i < j)
noncomputable def gt (i j : Int) : Bool := decide (j < i)
noncomputable def ge (i j : Int) : Bool := decide (j ≤ i)
noncomputable def gh (X : Cx) (op : CmpOp) (gg : D → D → Option DV) : Prop := ∃ r, OpR X (compareOp op) r ∧ DR X.K r gg
theorem ot : gh X .Lt (bU lt) := ⟨_, wI, pf (p := lt)⟩
theorem cmp_gt : gh X .Gt (bU gt) := ⟨_, A5, pf (p := gt)⟩
theorem Ag : gh X .GtE (bU ge) := ⟨_, yA, pf (p := ge)⟩
theorem aY {op : CmpOp} {gg : D → D → Option DV} (ho : gh X op gg) (ha : PED X E a f) (hb : PED X E b g) (hm : behindInMarks op b = false) : PTD X E (.Compare a [op] [b] pos) (aA (af f g gg)) := by
  obtain ⟨r, h1, h2⟩ := ho
  obtain ⟨ta, p1, d1⟩ := ha; obtain ⟨tb, p2, d2⟩ := hb
  exact ⟨_, xx h1 p1 p2 hm, sF (oS h2 d1 d2)⟩
theorem lS {fa : DM Bool} (ha : PTD X E a fa) : PWD X E (.BoolOp .And [a] pos) fa := by
  obtain ⟨t, p, d⟩ := ha; exact ⟨_, wU p, d⟩
theorem d5 {fa : DM Bool} (ha : PTD X E a fa) : PWD X E (.BoolOp .Or [a] pos) fa := by
  obtain ⟨t, p, d⟩ := ha; exact ⟨_, zb p, d⟩
theorem nj {fa fb : DM Bool} {rest : List Expr} (ha : PTD X E a fa) (hb : PWD X E (.BoolOp .And (b :: rest) pos) fb) : PWD X E (.BoolOp .And (a :: b :: rest) pos) (cO fa fb) := by
  obtain ⟨t, p, d⟩ := ha; obtain ⟨u, q, e⟩ := hb; exact ⟨_, uu p q, uL d e⟩
theorem dH {fa fb : DM Bool} {rest : List Expr} (ha : PTD X E a fa) (hb : PWD X E (.BoolOp .Or (b :: rest) pos) fb) : PWD X E (.BoolOp .Or (a :: b :: rest) pos) (bA fa fb) := by
  obtain ⟨t, p, d⟩ := ha; obtain ⟨u, q, e⟩ := hb; exact ⟨_, By p q, u9 d e⟩
theorem de {fa : DM Bool} (h : PWD X E a fa) : PTD X E a fa := by
  obtain ⟨t, p, d⟩ := h; exact ⟨_, p.pt, d⟩
theorem dn {fa : DM Bool} (ha : PTD X E a fa) : PTD X E (.UnaryOp .Not a pos) (bO fa) := by
  obtain ⟨t, p, d⟩ := ha; exact ⟨_, xG p, Bc d⟩
theorem jk {op} (ha : PED X E a f) : PED X E (.BoolOp op [a] pos) f := by
  obtain ⟨t, p, d⟩ := ha; exact ⟨_, AI p, d⟩
theorem fO {rest : List Expr} (ha : PED X E a f) (hb : PED X E (.BoolOp .And (b :: rest) pos) g) : PED X E (.BoolOp .And (a :: b :: rest) pos) (bW f g) := by
  obtain ⟨t, p, d⟩ := ha; obtain ⟨u, q, e⟩ := hb; exact ⟨_, u7 p q, vL d e⟩
theorem gF (ha : PED X E a f) : PED X E (.UnaryOp .Not a pos) (cI f) := by
  obtain ⟨t, p, d⟩ := ha; exact ⟨_, zL p, AH d⟩
theorem dI (ha : PED X E a f) (he : ∀ whole, isTrue a X.env whole = (do let v ← whole; standAt a.pos; holding [v] (truthy v)) := by intro _; rfl) : PTD X E a (aA f) := by
  obtain ⟨ta, p1, d1⟩ := ha
  exact ⟨_, AN p1 he, yR d1⟩
noncomputable def gIx : D → D → Option DV
  | .lst ds, .int i => (atI ds i).map .val
  | .tup ds, .int i => (atI ds i).map .val
  | .str z, .int i => if z.length ≤ sizeLine then (atI z.cps.toList i).map fun c => .val (.str ⟨#[c]⟩) else none
  | .scr ns, .int i => (atI ns i).map fun n => .val (.int n)
  | _, _ => none
theorem qU {K : PySem.W.Frag} {H : Hp} {Ω : Om} {ds : List D} {vs : List V} {i : Int} {d : D} (r : au K H Ω ds vs) (h : atI ds i = some d) : ∃ v, atI vs i = some v ∧ Rep K H Ω d v := by
  unfold atI at h ⊢
  rw [← r.length]
  cases e : ixN ds.length i with
  | none => rw [e] at h; cases h
  | some j => rw [e] at h; exact r.get h
theorem aI (ha : PED X E a f) (hb : PED X E b g) (hs : n9 b := by intro _ _; rfl) : PED X E (.Subscript a b pos) (af f g gIx) := by
  obtain ⟨ta, p1, d1⟩ := ha
  obtain ⟨tb, p2, d2⟩ := hb
  refine ⟨_, tE va p1 p2 hs, oS ?_ d1 d2⟩
  intro E σ H δ Ω x y d1 d2 z Q R r1 r2 hz h
  unfold gIx at hz
  split at hz
  · obtain ⟨d, e, rfl⟩ := Option.map_eq_some_iff.mp hz
    obtain ⟨p, vs, e1, e2, e3⟩ := dv r1
    obtain ⟨v, q, rv⟩ := qU e3 e
    exact .inl ⟨p, vs, _, v, e1, r2, .inl e2, q, h.now R rv⟩
  · obtain ⟨d, e, rfl⟩ := Option.map_eq_some_iff.mp hz
    obtain ⟨p, vs, e1, e2, e3⟩ := dY r1
    obtain ⟨v, q, rv⟩ := qU e3 e
    exact .inr (.inl ⟨p, vs, _, v, e1, r2, e2, q, h.now R rv⟩)
  · split at hz
    · rename_i hl
      obtain ⟨c, e, rfl⟩ := Option.map_eq_some_iff.mp hz
      exact .inr (.inr ⟨_, _, c, r1, r2, hl, e, h.now R rfl⟩)
    · cases hz
  · obtain ⟨n, e, rfl⟩ := Option.map_eq_some_iff.mp hz
    obtain ⟨p, e1, e2⟩ := (show ∃ a, _ from r1)
    refine .inl ⟨p, _, _, .int n, e1, r2, e2.sq, ?_, h.now R rfl⟩
    unfold atI at e ⊢
    rw [List.length_map]
    obtain ⟨j, h1, h2⟩ := Option.bind_eq_some_iff.mp e
    rw [h1]
    show (List.map V.int _)[j]? = _
    rw [List.getElem?_map, h2]
    rfl
  · cases hz
theorem ay : PAD X E [] ah := ⟨_, eA, rQ⟩
theorem ao {es : List Expr} {r : DM (List DV)} (ha : PED X E e f) (hr : PAD X E es r) (hs : starEach (e :: es) X.env = (false, eval e X.env) :: starEach es X.env := by rfl) : PAD X E (e :: es) (ae f r) := by
  obtain ⟨t, p, d⟩ := ha; obtain ⟨u, q, c⟩ := hr; exact ⟨_, dX p q hs, wq d c⟩
theorem cW {es : List Expr} {r : DM (List DV)} {k : Nat} (h : PAD X E es r) : PED X E (.Tuple es k pos) (bu r) := by
  obtain ⟨t, p, d⟩ := h; exact ⟨_, nZ p, vE d⟩
theorem eo {es : List Expr} {r : DM (List DV)} (h : PAD X E es r) : PED X E (.List es pos) (bF r) := by
  obtain ⟨t, p, d⟩ := h; exact ⟨_, mH p, vm d⟩
structure cc (P : Program) (w : World) (K : PySem.W.Frag) (mg : Str → Option Value) (base : Heap) (k : Nat) (x : Str) (n : Nat) (M : List D → Ro) : Prop where
  ex : ∃ (f : Addr) (fd : FuncData) (ps : List Str), aO P w K mg base CX0 k f fd ps (spP K (fun _ => .none) n M) ∧ mg x = some (.ref f) ∧ PySem.W.keepIn K (.ref f) = true ∧ Binds K fd ps []
theorem cx {k n : Nat} {x : Str} {M : List D → Ro} {p : Pos} {es : List Expr} {r : DM (List DV)} (F : cc X.prog X.w X.K X.mg X.base k x n M) (hr : aU k X.A) (ha : PAD X EN (e :: es) r) (hg : Gl X x := by rfl)
    (hdb : (x == ("__debug__" : Str)) = false := by decide) (he : starEach (e :: es) X.env = (false, eval e X.env) :: starEach es X.env := by rfl) (hpl : (backTo pos (starEach es X.env)).any (·.1) = false := by rfl) :
    PED X EN (.Call (.Name x p) (e :: es) [] pos) (aR n r M) := by
  obtain ⟨fa, fd, ps, F, hm, kp, b⟩ := F.ex
  obtain ⟨t, q, d⟩ := ha
  exact ⟨_, lO F hr hg hm kp b .nil gz q hdb he hpl, pE (fun _ _ z => z) d⟩
noncomputable def fV (X : Cx) (fv : Value) (gg : List D → Option DV) : Prop := ∃ r, el X fv r ∧ DC X.K r gg
theorem cf {id : String} {gg : List D → Option DV} {x : Str} {p : Pos} {es : List Expr} {r : DM (List DV)} (hc : fV X (.builtin id) gg) (hm : X.mg x = none) (hv : bootBuiltins x = some (.builtin id)) (ha : PAD X E (e :: es) r) (hg : Gl X x := by rfl)
    (hn : x ≠ "__name__" := by decide) (hdb : (x == ("__debug__" : Str)) = false := by decide) (he : starEach (e :: es) X.env = (false, eval e X.env) :: starEach es X.env := by rfl) (hpl : (backTo pos (starEach es X.env)).any (·.1) = false := by rfl) :
    PED X E (.Call (.Name x p) (e :: es) [] pos) (fCB r gg) := by
  obtain ⟨rr, h1, h2⟩ := hc
  obtain ⟨t, q, d⟩ := ha
  exact ⟨_, nU h1 hg hm hv q hn hdb he hpl, qc h2 d⟩
theorem oE {T : String} {gg : List D → Option DV} {x : Str} {p : Pos} {es : List Expr} {r : DM (List DV)} (hc : fV X (.type T) gg) (hm : X.mg x = none) (hv : bootBuiltins x = some (.type T)) (ha : PAD X E (e :: es) r) (hg : Gl X x := by rfl)
    (hn : x ≠ "__name__" := by decide) (hdb : (x == ("__debug__" : Str)) = false := by decide) (he : starEach (e :: es) X.env = (false, eval e X.env) :: starEach es X.env := by rfl) (hpl : (backTo pos (starEach es X.env)).any (·.1) = false := by rfl) :
    PED X E (.Call (.Name x p) (e :: es) [] pos) (fCB r gg) := by
  obtain ⟨rr, h1, h2⟩ := hc
  obtain ⟨t, q, d⟩ := ha
  exact ⟨_, Af h1 hg hm hv q hn hdb he hpl, qc h2 d⟩
theorem fD {K : PySem.W.Frag} {H : Hp} {Ω : Om} {d : D} {vs : List V} (h : lr K H Ω [d] vs) : ∃ v, vs = [v] ∧ cm K H Ω d v := by
  obtain ⟨v, r, e1, e2, e3⟩ := h
  cases (show r = [] from e3)
  exact ⟨v, e1, e2⟩
noncomputable def aZ : List D → Option DV
  | [.lst ds] => some (.val (.int ds.length))
  | [.tup ds] => some (.val (.int ds.length))
  | [.str x] => if x.length ≤ sizeLine then some (.val (.int x.length)) else none
  | [.scr ns] => some (.val (.int ns.length))
  | _ => none
theorem cL : fV X (.builtin "len") aZ := ⟨_, zX, by
  intro E σ H δ Ω vs ds z Q R r hz h
  unfold aZ at hz
  split at hz
  · cases hz
    obtain ⟨v, e, rv⟩ := fD r
    obtain ⟨a, ws, e1, e2, e3⟩ := dv rv
    subst e1
    exact ⟨.ref a, ws.length, e, .inl ⟨ws, .inl e2, rfl⟩, by rw [← e3.length]; exact h.now R rfl⟩
  · cases hz
    obtain ⟨v, e, rv⟩ := fD r
    obtain ⟨a, ws, e1, e2, e3⟩ := dY rv
    subst e1
    exact ⟨.ref a, ws.length, e, .inr ⟨ws, e2, rfl⟩, by rw [← e3.length]; exact h.now R rfl⟩
  · split at hz
    · rename_i x hl
      cases hz
      obtain ⟨v, e, rv⟩ := fD r
      cases (show v = .str x from rv)
      exact ⟨.str x, x.length, e, ⟨hl, rfl⟩, h.now R rfl⟩
    · cases hz
  · rename_i ns
    cases hz
    obtain ⟨v, e, rv⟩ := fD r
    obtain ⟨p, e1, e2⟩ := (show ∃ a, _ from rv)
    subst e1
    exact ⟨.ref p, ns.length, e, .inl ⟨_, e2.sq, by rw [List.length_map]⟩, h.now R rfl⟩
  · cases hz⟩
noncomputable def lM : List D → Option DV
  | [.lst ds] => some (.own ds)
  | [.tup ds] => some (.own ds)
  | _ => none
theorem tV : fV X (.type "list") lM := ⟨_, AS, by
  intro E σ H δ Ω vs ds z Q R r hz h
  unfold lM at hz
  split at hz
  · cases hz
    obtain ⟨v, e, rv⟩ := fD r
    obtain ⟨a, ws, e1, e2, e3⟩ := dv rv
    subst e1
    exact ⟨a, ws, e, .inl (.inl e2), fun p hp => h.alloc1 R hp e3⟩
  · cases hz
    obtain ⟨v, e, rv⟩ := fD r
    obtain ⟨a, ws, e1, e2, e3⟩ := dY rv
    subst e1
    exact ⟨a, ws, e, .inr e2, fun p hp => h.alloc1 R hp e3⟩
  · cases hz⟩
noncomputable def tyD : D → String
  | .non => "NoneType" | .bl _ => "bool" | .int _ => "int" | .str _ => "str" | .tup _ => "tuple" | .lst _ => "list" | .scr _ => "list" | .exc _ => "" | .key _ _ => "" | .obj _ _ _ _ => ""
noncomputable def il : List String := ["int", "bool", "str", "list", "tuple"]
noncomputable def isExc : D → Bool
  | .exc _ => true
  | .key _ _ => true
  | .obj _ _ _ _ => true
  | _ => false
noncomputable def isD (T : String) (d : D) : Option Bool := if isExc d then none else if il.contains T then some (tyD d == T || (tyD d == "bool" && T == "int")) else none
end
end DL
namespace DL
open PySem PySem.Spec PyProof.Rows L2
section
variable {X : Cx} {E : Str → Hp → Prop} {pos : Pos} {a b c e : Expr} {f g : DM DV} {mp : List Nat}
noncomputable def qk (A B : String) : Option Bool := if (Value.type A == Value.type B) = true then some true else if PySem.W.kitMeta B = true then (fastBuiltinMro A).map (·.contains (Value.type B)) else none
theorem zq : (il.all fun T => ["NoneType", "bool", "int", "str", "tuple", "list"].all fun A => qk A T == some (A == T || (A == "bool" && T == "int"))) = true := by decide +kernel
theorem xV {K : PySem.W.Frag} {T : String} {d : D} {bb : Bool} (h : isD T d = some bb) : PySem.W.kitOne K (.type (tyD d)) (.type T) = some bb := by
  unfold isD at h
  split at h
  · cases h
  rename_i hE
  split at h
  · rename_i hT
    cases h
    have h1 := List.all_eq_true.mp zq T (List.contains_iff_mem.mp hT)
    have h2 := List.all_eq_true.mp h1 (tyD d) (by cases d <;> first | exact absurd rfl hE | simp [tyD])
    exact (beq_iff_eq.mp h2 : qk (tyD d) T = _)
  · cases h
theorem Bs {K : PySem.W.Frag} {H : Hp} {Ω : Om} {d : D} {x : V} {T : String} {bb : Bool} (h : cm K H Ω d x) (hd : isD T d = some bb) : TyD K H x (tyD d) := by
  cases d with
  | non => cases (show x = .non from h); exact .non
  | bl y => cases (show x = .bl y from h); exact .bl y
  | int y => cases (show x = .int y from h); exact .int y
  | str y => cases (show x = .str y from h); exact .str y
  | tup ds => obtain ⟨p, vs, e1, e2, e3⟩ := dY h; subst e1; exact .tup e2
  | lst ds => obtain ⟨p, vs, e1, e2, e3⟩ := dv h; subst e1; exact .lst (.inl e2)
  | scr ns => obtain ⟨p, e1, e2⟩ := (show ∃ a, _ from h); subst e1; exact .lst e2.sq
  | exc c => cases hd
  | key r n => cases hd
  | obj _ _ _ _ => cases hd
noncomputable def gIs (T : String) (d : D) : Option DV := (isD T d).map fun bb => .val (.bl bb)
theorem gM {T : String} {x : Str} {p p2 : Pos} (hm : X.mg "isinstance" = none) (hm2 : X.mg x = none) (hv : bootBuiltins x = some (.type T)) (ha : PED X E e f) (hg : Gl X "isinstance" := by rfl) (hg2 : Gl X x := by rfl)
    (hn : x ≠ "__name__" := by decide) (hdb : (x == ("__debug__" : Str)) = false := by decide)
    (hs : starEach [e, .Name x p2] X.env = (false, eval e X.env) :: starEach [.Name x p2] X.env := by rfl) (hs2 : starEach [.Name x p2] X.env = (false, eval (.Name x p2) X.env) :: starEach [] X.env := by rfl)
    (hpl : (backTo pos (starEach [.Name x p2] X.env)).any (·.1) = false := by rfl) :
    PED X E (.Call (.Name "isinstance" p) [e, .Name x p2] [] pos) (fUn f (gIs T)) := by
  obtain ⟨t, q, d⟩ := ha
  refine ⟨_, nU vD hg hm boot_isinstance (dX q (dX (pN (v := .ty T) hg2 hm2 hv rfl hn hdb) eA hs2) hs) (by decide) (by decide) hs hpl, ?_⟩
  intro σ H δ Ω R Q h
  refine d.use R h fun a1 x δ1 H1 Ω1 _ s1 R1 r1 h1 => ?_
  (try dsimp only at h1)
  cases q1 : res δ1 a1 with
  | none => rw [q1] at h1; exact h1.elim
  | some d1 =>
    rw [q1] at h1
    (try dsimp only at h1)
    cases q3 : isD T d1 with
    | none =>
      unfold gIs at h1
      rw [q3] at h1
      exact h1.elim
    | some bb =>
      unfold gIs at h1
      rw [q3] at h1
      exact ⟨x, T, tyD d1, bb, rfl, Bs (r1.res R1 q1) q3, xV q3, Wg.now (d := .val (.bl bb)) h1 R1 rfl⟩
section
variable {tg iter elt : Expr} {ifs : List Expr} {sc : Scope} {fi : DM (List D)} {t : D → DSt → Option DSt} {fc : DM Bool} {fe : DM DV} {N : List Str} {sel : List (Option Nat)}
noncomputable def PID (X : Cx) (E : Str → Hp → Prop) (tg iter : Expr) (fi : DM (List D)) : Prop := ∃ wi, PI X tg iter wi ∧ DI X.K E wi fi
noncomputable def PGD (X : Cx) (mp : List Nat) (tg : Expr) (t : D → DSt → Option DSt) : Prop := ∃ g, PG X tg g ∧ DG X.K mp g t
noncomputable def j7 (X : Cx) (ifs : List Expr) (fc : DM Bool) : Prop := ∃ ts, PTs X ifs ts ∧ DT X.K EN ts fc
theorem oU (ha : PED X E a f) : PID X E tg a (fIt f jE) := by
  obtain ⟨t, p, d⟩ := ha; exact ⟨_, sd p, Ae d⟩
theorem yI (ha : PED X E a f) : PID X E tg a (fIt f mX) := by
  obtain ⟨t, p, d⟩ := ha; exact ⟨_, y9 p, Ak d⟩
theorem jQ {r : DM (List DV)} {p : Pos} (hm : X.mg "range" = none) (ha : PAD X E [a] r) (hg : Gl X "range" := by rfl) (hs : starEach [a] X.env = [(false, eval a X.env)] := by rfl) : PID X E tg (.Call (.Name "range" p) [a] [] pos) (dQ r) := by
  obtain ⟨t, q, d⟩ := ha; exact ⟨_, AZ hg hm q hs, wG d⟩
theorem fQ {i : Nat} {x : Str} (hN : X.N.Nodup) (hi : X.N[i]? = some x := by rfl) (hx : Loc X.env.scope x := by first | exact Or.inl rfl | exact Or.inr rfl) (hm : i ∉ mp := by decide)
    (hf : X.fn x = true ∨ X.env.scope.names.lookup x = some .local := by first | exact .inl rfl | exact .inr rfl) : PGD X mp (.Name x pos) (bw i) := ⟨_, uk hN hi hx hf, Bb hm⟩
theorem mI : j7 X [] (.ret true) := ⟨_, Aa, fun σ H δ Ω R Q h => Wg.nowB h R⟩
theorem AM (h : PTD X EN c fc) : j7 X [c] fc := by
  obtain ⟨t, p, d⟩ := h; exact ⟨_, uo p, d⟩
theorem mj (B : Blk X N sel sc) (hc : X.calm = true) (hi : PID X E tg iter fi) (hg : ∀ b, PGD (blk X N sc b) [] tg t) (ht : ∀ b, j7 (blk X N sc b) ifs fc) (he : ∀ b, PED (blk X N sc b) EN elt fe)
    (hs : ∀ x, foldedSetIterable iter X.env x = pure x := by intro _; rfl) : PED X E (.ListComp elt [⟨tg, iter, ifs, 0⟩] sc pos) (fLC fi t fc fe sel) := by
  obtain ⟨wi, p, d⟩ := hi
  refine ⟨_, Bf (g := fun v σ H Q => ∀ b, (hg b).choose v σ H Q) (ts := fun σ H Q => ∀ b, (ht b).choose σ H Q) (te := fun σ H Q => ∀ b, (he b).choose σ H Q) B hc p
    (fun b pins s σ H v u Q I r h => (hg b).choose_spec.1 pins s σ H v u Q I r (h b)) (fun b pins s σ H Q I h => (ht b).choose_spec.1 pins s σ H Q I (h b)) (fun b pins s σ H Q I h => (he b).choose_spec.1 pins s σ H Q I (h b)) hs,
    uj d (fun σ H δ Ω dd x δ' R r e Q h b => (hg b).choose_spec.2 σ H δ Ω dd x δ' R r e Q h) (fun σ H δ Ω R Q h b => (ht b).choose_spec.2 σ H δ Ω R Q h) (fun σ H δ Ω R Q h b => (he b).choose_spec.2 σ H δ Ω R Q h)⟩
end
theorem bq : dN X E mp [] aM := ⟨_, xO, yM⟩
theorem aE {st : Stmt} {rest : List Stmt} {f1 f2 : DM Fl} (h1 : PSD X E mp st f1) (h2 : dN X E mp rest f2) : dN X E mp (st :: rest) (ax f1 f2) := by
  obtain ⟨t, p, d⟩ := h1; obtain ⟨u, q, r⟩ := h2; exact ⟨_, nE p q, zI d r⟩
theorem aG {st : Stmt} {f1 : DM Fl} (h1 : PSD X E mp st f1) : dN X E mp [st] f1 := by
  obtain ⟨t, p, d⟩ := h1; exact ⟨_, nq p, d⟩
theorem kb (i : Nat) {st : Stmt} {f1 : DM Fl} (h1 : PSD X E mp st f1) : PSD X E mp st (fun δ => f1 (frz i δ)) := by
  obtain ⟨t, p, d⟩ := h1; exact ⟨_, p, Bo d⟩
theorem aP (h : PED X E e f) : PSD X E mp (.Return (some e) pos) (aF f) := by
  obtain ⟨t, p, d⟩ := h; exact ⟨_, zD p, xk d⟩
theorem mU (h : PED X E e f) (hs : swapsWith e none pos.line X.env = pure false := by rfl) : PSD X E mp (.Expr e pos) (gx f) := by
  obtain ⟨t, p, d⟩ := h; exact ⟨_, km p hs, wz d⟩
theorem bc {fc : DM Bool} {s1 s2 : List Stmt} {f1 f2 : DM Fl} (hc : PTD X E c fc) (h1 : dN X E mp s1 f1) (h2 : dN X E mp s2 f2) : PSD X E mp (.If c s1 s2 pos) (fIf fc f1 f2) := by
  obtain ⟨t, p, d⟩ := hc; obtain ⟨t1, p1, d1⟩ := h1; obtain ⟨t2, p2, d2⟩ := h2
  exact ⟨_, wM p p1 p2, zo d d1 d2⟩
theorem bt (i : Nat) {x : Str} {pos' : Pos} (hN : X.N.Nodup) (he : PED X E e f) (hi : X.N[i]? = some x := by rfl) (hx : Loc X.env.scope x := by first | exact Or.inl rfl | exact Or.inr rfl) (hm : i ∉ mp := by decide)
    (hs : swapsWith e (some (.Name x pos')) pos.line X.env = pure false := by rfl) (hf : X.fn x = true ∨ X.env.scope.names.lookup x = some .local := by first | exact .inl rfl | exact .inr rfl) : PSD X E mp (.Assign [.Name x pos'] e pos) (aL i f) := by
  obtain ⟨t, p, d⟩ := he; exact ⟨_, m9 hN hi hx p hs hf, zO hm d⟩
theorem oI (i : Nat) {x : Str} {pos' : Pos} (hN : X.N.Nodup) (he : PED X E e f) (hi : X.N[i]? = some x := by rfl) (hx : Loc X.env.scope x := by first | exact Or.inl rfl | exact Or.inr rfl) (hm : i ∉ mp := by decide)
    (hs : swapsWith e (some (.Name x pos')) pos.line X.env = pure false := by rfl) (hf : X.fn x = true ∨ X.env.scope.names.lookup x = some .local := by first | exact .inl rfl | exact .inr rfl) : PSD X E mp (.Assign [.Name x pos'] e pos) (fz i f) := by
  obtain ⟨t, p, d⟩ := he; exact ⟨_, m9 hN hi hx p hs hf, pJ hm d⟩
theorem kc {tg iter : Expr} {body : List Stmt} {fi : DM (List D)} {t : D → DSt → Option DSt} {fb : DM Fl} (hp : PassesOwn (model X.prog X.w) X.A X.env X.xe) (hc : X.calm = true) (hi : PID X E tg iter fi) (hg : PGD X mp tg t) (hb : dN X E mp body fb)
    (hs : ∀ x, foldedSetIterable iter X.env x = pure x := by intro _; rfl) : PSD X E mp (.For tg iter body [] pos) (fE fi t fb) := by
  obtain ⟨wi, p1, d1⟩ := hi; obtain ⟨g, p2, d2⟩ := hg; obtain ⟨ts, p3, d3⟩ := hb
  exact ⟨_, sM hp hc p1 p2 p3 hs, vo d1 d2 d3⟩
noncomputable def sS (i : Nat) (f : DM DV) : DM Fl := (fN f).bd fun a δ => match a, δ[i]? with
  | .val d, some (.ow ds) => if ds.length < sizeLine then .ok .nx (δ.set i (.ow (ds ++ [d]))) else .un
  | _, _ => .un
noncomputable def hZ (i : Nat) (δ : DSt) : Bool := match δ[i]? with | some (.ow _) => true | _ => false
noncomputable def dU (i : Nat) (f : DM DV) : DM Fl := fun δ => if hZ i δ then sS i f δ else .un
section
variable {K : PySem.W.Frag} {H : Hp} {Ω : Om} {σ : St} {δ : DSt}
theorem ar.putOw {i : Nat} {p : Addr} {xs : List V} {es : List D} (R : ar K H Ω σ δ) (hσ : σ[i]? = some (some (.ref p))) (hl : ∃ vs, H p = some vs ∧ bB vs = false) (hp : Ω p = some (i + 2)) (r : au K H Ω es xs) : ar K (upd H p (.lst xs)) Ω σ (δ.set i (.ow es)) := by
  have hp' : Ω p ≠ none := by rw [hp]; exact Option.some_ne_none _
  refine ⟨by rw [List.length_set]; exact R.len, fun j s h => ?_, fun a k q => ?_⟩
  · by_cases hj : i = j
    · subst hj
      have hl' : i < δ.length := by
        have := (List.getElem?_eq_some_iff.mp h).1
        rwa [List.length_set] at this
      rw [List.getElem?_set_self hl'] at h
      cases h
      exact ⟨p, xs, by rw [hσ]; rfl, aT, hp, r.put hl hp'⟩
    · rw [List.getElem?_set_ne hj] at h
      refine (R.sl j s h).mv (fun _ _ z => z.put hl hp') (fun _ _ z => z.put hl hp') fun a ws e3 e2 => ?_
      have ha : a ≠ p := by
        rintro rfl
        rw [hp] at e3
        exact hj (by have := Option.some.inj e3; omega)
      exact ⟨by rw [aD ha]; exact e2, e3⟩
  · by_cases ha : a = p
    · subst ha; exact ⟨_, aT, rfl⟩
    · obtain ⟨ws, e, f⟩ := R.trk a k q
      exact ⟨ws, by rw [aD ha]; exact e, f⟩
theorem Ext.putOw {p : Addr} {k : Nat} {o : HO} (hl : ∃ vs, H p = some vs ∧ bB vs = false) (hp : Ω p = some (k + 1)) : Ext H Ω (upd H p o) Ω where
  keep := fun b o' q h => by
    have hb : b ≠ p := by
      rintro rfl
      obtain ⟨vs, e, f⟩ := hl
      rw [e] at q
      cases q
      rcases h with h | h | h
      · rw [f] at h; cases h
      · rw [hp] at h; cases h
      · rw [hp] at h; cases h
    rw [aD hb]
    exact q
  new := fun _ q _ => q
  fr := fun _ => Iff.rfl
  live := fun b q => by
    unfold upd at q
    split at q
    · cases q
    · exact q
end
theorem mR (i : Nat) {x : Str} {p apos cpos : Pos} (he : PED X E e f) (hN : X.N[i]? = some x := by rfl) (hv : Vis X.env.scope x := by first | exact Or.inl rfl | exact Or.inr (Or.inl rfl) | exact Or.inr (Or.inr rfl))
    (hd : (x == ("__debug__" : Str)) = false := by decide) (hcd : (x == ("__classdict__" : Str)) = false := by decide)
    (hbase : attributeBase (.Name x p) "append" X.env (eval (.Name x p) X.env) = eval (.Name x p) X.env := by rfl)
    (hfew : ((backTo cpos (starEach [e] X.env)).all (fun x => !x.1) && (backToKw cpos (keywordEach [] X.env)).all (fun x => x.1.isSome)
      && decide (([e] : List Expr).length + ([] : List Keyword).length + (if ([] : List Keyword).isEmpty then 0 else 1) < 30)) = true := by rfl)
    (hline : (apos.endLine == cpos.line) = true := by rfl) (hs : starEach [e] X.env = (false, eval e X.env) :: starEach [] X.env := by rfl)
    (hsw : swapsWith (.Call (.Attribute (.Name x p) "append" apos) [e] [] cpos) none pos.line X.env = pure false := by rfl) :
    PSD X E mp (.Expr (.Call (.Attribute (.Name x p) "append" apos) [e] [] cpos) pos) (dU i f) := by
  obtain ⟨t, q, d⟩ := he
  refine ⟨_, km (mK PySem.F.plainAttrs_list PySem.F.slot_list_append PySem.F.type_list_append kr (pv i hN hv hd hcd) (dX q eA hs) hbase hfew hline hs rfl) hsw, ?_⟩
  intro σ H δ Ω R B h
  unfold dU at h
  split at h
  · rename_i ho
    unfold hZ at ho
    split at ho
    · rename_i ds hds
      obtain ⟨a, vs, e1, e2, e3, e4⟩ := R.sl i _ hds
      refine ⟨.ref a, join_some e1, .inl ⟨rfl, vs, SqL.of e2⟩, d.use R h fun a1 y δ1 H1 Ω1 ex s1 R1 r1 h1 => ?_⟩
      (try dsimp only at h1)
      split at h1
      · rename_i dd es hds1
        split at h1
        · rename_i hz
          obtain ⟨a', ws, q1, q2, q3, q4⟩ := R1.sl i _ hds1
          have ea : a' = a := by
            have z := (join_some q1).symm.trans (join_some e1)
            injection z with z
            injection z with z
            injection z
          subst ea
          refine ⟨a', ws, y, rfl, rfl, q2, by rw [← q4.length]; exact hz, ?_⟩
          exact h1 _ Ω1 (.putOw (k := i + 1) ⟨_, q2, rfl⟩ q3) σ (R1.putOw (join_some q1) ⟨_, q2, rfl⟩ q3 (q4.append (.cons r1 .nil))) fun _ _ => rfl
        · exact h1.elim
      · exact h1.elim
    · cases ho
  · exact h.elim
end
end DL
namespace DL
open PySem PySem.Spec PyProof.Rows L2
noncomputable def dP (f : D → D → Option Bool) : List D → List D → Option Bool
  | [], [] => some true
  | x :: xs, y :: ys => match f x y, dP f xs ys with | some a, some b => some (a && b) | _, _ => none
  | [], _ :: _ => some false
  | _ :: _, [] => some false
noncomputable def oth : D → Option Bool
  | .scr _ => none
  | .exc _ => none
  | .key _ _ => none
  | .obj _ _ _ _ => none
  | _ => some false
noncomputable def iW (g : List D → List D → Option Bool) : D → D → Option Bool
  | .non, d => (match d with | .non => some true | d => oth d)
  | .int i, d => (match d with | .int j => some (i == j) | .bl _ => none | d => oth d)
  | .str x, d => (match d with | .str y => some (x == y) | d => oth d)
  | .bl x, d => (match d with | .bl y => some (x == y) | .int _ => none | d => oth d)
  | .tup xs, d => (match d with | .tup ys => g xs ys | d => oth d)
  | .lst xs, d => (match d with | .lst ys => g xs ys | d => oth d)
  | _, _ => none
noncomputable def eqG : Nat → List D → List D → Option Bool
  | 0 => fun _ _ => none
  | n + 1 => dP (iW (eqG n))
noncomputable def cZ (n : Nat) (d1 d2 : D) : Option Bool := iW (eqG n) d1 d2
theorem rM {g : List D → List D → Option Bool} {d1 d2 : D} (h : oth d1 = none) : iW g d1 d2 = none := by cases d1 <;> first | rfl | cases h
theorem jr {g : List D → List D → Option Bool} {d1 d2 : D} (h : oth d2 = none) : iW g d1 d2 = none := by cases d1 <;> cases d2 <;> first | rfl | cases h
theorem sJ {f : D → D → Option Bool} : ∀ {xs ys : List D} {b : Bool}, dP f xs ys = some b → xs.length ≠ ys.length → b = false
  | [], [], _, _, hl => absurd rfl hl
  | [], _ :: _, _, e, _ => by cases e; rfl
  | _ :: _, [], _, e, _ => by cases e; rfl
  | x :: xs, y :: ys, b, e, hl => by
    unfold dP at e
    split at e
    · rename_i p q h1 h2
      cases e
      rw [sJ h2 (fun z => hl (by rw [List.length_cons, List.length_cons, z])), Bool.and_false]
    · cases e
theorem qR {f : D → D → Option Bool} : ∀ {xs ys : List D} {b : Bool}, dP f xs ys = some b → xs.length = ys.length →
    ∃ e : Nat → Bool, (∀ i x y, xs[i]? = some x → ys[i]? = some y → f x y = some (e i)) ∧ b = (List.range xs.length).all e
  | [], [], _, h, _ => ⟨fun _ => true, fun _ _ _ z => by simp at z, by cases h; rfl⟩
  | [], _ :: _, _, _, hl => by cases hl
  | _ :: _, [], _, _, hl => by cases hl
  | x :: xs, y :: ys, b, h, hl => by
    unfold dP at h
    split at h
    · rename_i p q h1 h2
      cases h
      obtain ⟨e, he, hb⟩ := qR h2 (Nat.succ.inj hl)
      refine ⟨fun i => match i with | 0 => p | i + 1 => e i, fun i x' y' z1 z2 => ?_, ?_⟩
      · cases i with
        | zero =>
          have a1 : x = x' := by simpa using z1
          have a2 : y = y' := by simpa using z2
          subst a1 a2
          exact h1
        | succ i => exact he i x' y' (by simpa using z1) (by simpa using z2)
      · rw [hb, List.length_cons, List.range_succ_eq_map, List.all_cons, List.all_map]
        rfl
    · cases h
theorem qg {f : D → D → Option Bool} : ∀ {xs ys : List D} {b : Bool}, dP f xs ys = some b →
    ∃ e : Nat → Bool, (∀ i x y, xs[i]? = some x → ys[i]? = some y → f x y = some (e i)) ∧ b = ((List.range (min xs.length ys.length)).all e && xs.length == ys.length)
  | [], [], _, h => ⟨fun _ => true, fun _ _ _ z => by simp at z, by cases h; rfl⟩
  | [], _ :: _, _, h => ⟨fun _ => true, fun _ _ _ z => by simp at z, by cases h; rfl⟩
  | _ :: _, [], _, h => ⟨fun _ => true, fun _ _ _ _ z => by simp at z, by cases h; rfl⟩
  | x :: xs, y :: ys, b, h => by
    unfold dP at h
    split at h
    · rename_i p q h1 h2
      cases h
      obtain ⟨e, he, hb⟩ := qg h2
      refine ⟨fun i => match i with | 0 => p | i + 1 => e i, fun i x' y' z1 z2 => ?_, ?_⟩
      · cases i with
        | zero =>
          have a1 : x = x' := by simpa using z1
          have a2 : y = y' := by simpa using z2
          subst a1 a2
          exact h1
        | succ i => exact he i x' y' (by simpa using z1) (by simpa using z2)
      · rw [hb, List.length_cons, List.length_cons, Nat.succ_min_succ, List.range_succ_eq_map, List.all_cons, List.all_map, Bool.and_assoc]
        congr 1
        congr 1
        by_cases hq : xs.length = ys.length
        · rw [hq]; simp
        · rw [beq_eq_false_iff_ne.mpr hq, beq_eq_false_iff_ne.mpr (fun z => hq (Nat.succ.inj z))]
    · cases h
section
variable {K : PySem.W.Frag} {H : Hp} {Ω : Om} {s : Shared}
structure fg (K : PySem.W.Frag) (H : Hp) (s : Shared) : Prop where
  l : ∀ a xs, Rd H a (.lst xs) → ∃ its : List Value, Vals xs its ∧ s.heap.IsList a its.toArray
  t : ∀ a xs, SqT K H a xs → ∃ its : List Value, Vals xs its ∧ s.heap.IsTuple a its.toArray
theorem fg.of {X : Cx} {pins : List (Addr × Obj)} {σ : St} (I : Inv X pins σ H s) : fg X.K H s :=
  ⟨fun a xs h => by obtain ⟨its, r, p, _⟩ := I.list (.inl h); exact ⟨its, r, p.isList⟩, fun a xs h => by obtain ⟨its, r, p, _⟩ := I.tuple h; exact ⟨its, r, p⟩⟩
theorem zv {h : Heap} {a : Addr} {xs ys : List Value} (p : h.IsList a xs.toArray) (q : h.IsList a ys.toArray) : xs = ys := by
  obtain ⟨o, e, c, n, d⟩ := p
  obtain ⟨o', e', c', n', d'⟩ := q
  rw [e] at e'
  cases e'
  rw [d] at d'
  injection d' with z
  simpa using z
theorem Aj {h : Heap} {a : Addr} {xs ys : List Value} (p : h.IsTuple a xs.toArray) (q : h.IsTuple a ys.toArray) : xs = ys := by
  obtain ⟨o, e, c, n, d⟩ := p
  obtain ⟨o', e', c', n', d'⟩ := q
  rw [e] at e'
  cases e'
  rw [d] at d'
  injection d' with z
  simpa using z
theorem tR {h : Heap} {a : Addr} {xs ys : Array Value} (p : h.IsList a xs) (q : h.IsTuple a ys) : False := by
  obtain ⟨o, e, c, n, d⟩ := p
  obtain ⟨o', e', c', n', d'⟩ := q
  rw [e] at e'
  cases e'
  rw [c] at c'
  exact absurd c' (by decide)
inductive AsX (K : PySem.W.Frag) (H : Hp) (Ω : Om) : D → V → Prop
  | non : AsX K H Ω .non .non
  | bl (b : Bool) : AsX K H Ω (.bl b) (.bl b)
  | int (i : Int) : AsX K H Ω (.int i) (.int i)
  | str (z : Str) : AsX K H Ω (.str z) (.str z)
  | tup (ds : List D) (p : Addr) (vs : List V) (q : SqT K H p vs) (r : au K H Ω ds vs) : AsX K H Ω (.tup ds) (.ref p)
  | lst (ds : List D) (p : Addr) (vs : List V) (q : Rd H p (.lst vs)) (r : au K H Ω ds vs) : AsX K H Ω (.lst ds) (.ref p)
  | oth (d : D) (v : V) (h : DL.oth d = none) : AsX K H Ω d v
theorem asX {d : D} {x : V} (h : cm K H Ω d x) : AsX K H Ω d x := by
  cases d with
  | non => cases (show x = .non from h); exact .non
  | bl b => cases (show x = .bl b from h); exact .bl b
  | int i => cases (show x = .int i from h); exact .int i
  | str z => cases (show x = .str z from h); exact .str z
  | tup ds => obtain ⟨p, vs, e, q, r⟩ := dY h; subst e; exact .tup ds p vs q r
  | lst ds => obtain ⟨p, vs, e, q, r⟩ := dv h; subst e; exact .lst ds p vs q r
  | _ => exact .oth _ _ rfl
theorem ua {f : D → D → Option Bool} (ih : ∀ {d1 d2 : D} {b : Bool} {v : V}, Rep K H Ω d1 v → Rep K H Ω d2 v → f d1 d2 = some b → b = true) : ∀ {xs ys : List D} {vs : List V} {b : Bool}, au K H Ω xs vs → au K H Ω ys vs → dP f xs ys = some b → b = true
  | [], ys, vs, b, r1, r2, e => by
    cases (show vs = [] from r1)
    cases ys with
    | nil => cases e; rfl
    | cons y ys => obtain ⟨v, q, e1, _⟩ := (show ∃ v r, _ from r2); cases e1
  | x :: xs, ys, vs, b, r1, r2, e => by
    obtain ⟨v, q, e1, e2, e3⟩ := (show ∃ v r, _ from r1)
    subst e1
    cases ys with
    | nil => cases (show _ = [] from r2)
    | cons y ys =>
      obtain ⟨v', q', g1, g2, g3⟩ := (show ∃ v r, _ from r2)
      cases g1
      unfold dP at e
      split at e
      · rename_i p1 p2 z1 z2
        cases e
        rw [ih e2 g2 z1, ua ih e3 g3 z2]; rfl
      · cases e
theorem qz {g : List D → List D → Option Bool} (hs : fg K H s) (hg : ∀ {xs ys : List D} {vs : List V} {b : Bool}, au K H Ω xs vs → au K H Ω ys vs → g xs ys = some b → b = true) {d1 d2 : D} {b : Bool} {v : V} (h1 : cm K H Ω d1 v) (h2 : cm K H Ω d2 v) (e : iW g d1 d2 = some b) : b = true := by
  cases asX h1 with
  | oth d v h => rw [rM h] at e; cases e
  | non => cases d2 <;> first | (cases e; done) | (cases e; rfl) | (cases h2; done) | (obtain ⟨_, _, z, _⟩ := (show ∃ a vs, _ from h2); cases z)
  | bl b => cases d2 <;> first | (cases e; done) | (cases h2; cases e; exact beq_self_eq_true _) | (cases h2; done) | (obtain ⟨_, _, z, _⟩ := (show ∃ a vs, _ from h2); cases z)
  | int i => cases d2 <;> first | (cases e; done) | (cases h2; cases e; exact beq_self_eq_true _) | (cases h2; done) | (obtain ⟨_, _, z, _⟩ := (show ∃ a vs, _ from h2); cases z)
  | str z => cases d2 <;> first | (cases e; done) | (cases h2; cases e; exact beq_self_eq_true _) | (cases h2; done) | (obtain ⟨_, _, z, _⟩ := (show ∃ a vs, _ from h2); cases z)
  | tup ds p vs q r =>
    cases d2 with
    | tup ds2 =>
      obtain ⟨p2, ws, z, q2, r2⟩ := dY h2
      cases z
      obtain ⟨i1, k1, z1⟩ := hs.t _ _ q
      obtain ⟨i2, k2, z2⟩ := hs.t _ _ q2
      cases Aj z1 z2
      cases k1.inj k2
      exact hg r r2 e
    | lst ds2 =>
      obtain ⟨p2, ws, z, q2, r2⟩ := dv h2
      cases z
      obtain ⟨_, _, k1⟩ := hs.t _ _ q
      obtain ⟨_, _, k2⟩ := hs.l _ _ q2
      exact (tR k2 k1).elim
    | _ => first | (cases e; done) | (cases h2; done)
  | lst ds p vs q r =>
    cases d2 with
    | lst ds2 =>
      obtain ⟨p2, ws, z, q2, r2⟩ := dv h2
      cases z
      obtain ⟨i1, k1, z1⟩ := hs.l _ _ q
      obtain ⟨i2, k2, z2⟩ := hs.l _ _ q2
      cases zv z1 z2
      cases k1.inj k2
      exact hg r r2 e
    | tup ds2 =>
      obtain ⟨p2, ws, z, q2, r2⟩ := dY h2
      cases z
      obtain ⟨_, _, k1⟩ := hs.t _ _ q2
      obtain ⟨_, _, k2⟩ := hs.l _ _ q
      exact (tR k2 k1).elim
    | _ => first | (cases e; done) | (cases h2; done)
theorem rR (hs : fg K H s) : ∀ (n : Nat) {d1 d2 : D} {b : Bool} {v : V}, Rep K H Ω d1 v → Rep K H Ω d2 v → cZ n d1 d2 = some b → b = true
  | 0, _, _, _, _, h1, h2, e => qz hs (g := eqG 0) (fun _ _ z => nomatch z) h1.b h2.b e
  | n + 1, _, _, _, _, h1, h2, e => qz hs (g := eqG (n + 1)) (ua (f := cZ n) (rR hs n)) h1.b h2.b e
theorem nT (hs : fg K H s) {n : Nat} {A : Around} {d1 d2 : D} {b : Bool} {x y : V} {v u : Value} (hu : A.units < cLine) (h1 : cm K H Ω d1 x) (h2 : cm K H Ω d2 y) (r1 : RelV x v) (r2 : RelV y u) (e : cZ n d1 d2 = some b)
    (hc : ∀ xs ys, ¬ (d1 = .tup xs ∧ d2 = .tup ys) ∧ ¬ (d1 = .lst xs ∧ d2 = .lst ys)) : SeqAt.RcAt A s v u b ∧ SeqAt.RcNeAt A s v u (!b) ∧ SeqAt.EqAt A s v u b := by
  have e : iW (eqG n) d1 d2 = some b := e
  cases asX h1 with
  | oth d v h => rw [rM h] at e; cases e
  | non =>
    cases (show v = Value.none from r1)
    cases asX h2 with
    | oth d v h => rw [jr h] at e; cases e
    | non => cases (show u = Value.none from r2); cases e; exact ⟨.none_none, .none_none, .same _⟩
    | bl b2 => cases (show u = Value.bool b2 from r2); cases e; exact ⟨.none_bool _, .none_bool _, .none_bool _⟩
    | int i2 => obtain ⟨t2, rfl⟩ := (show ∃ t, u = Value.int i2 t from r2); cases e; exact ⟨.none_int _ _, .none_int _ _, .none_int _ _⟩
    | str i2 => obtain ⟨t2, rfl⟩ := (show ∃ t, u = Value.str i2 t from r2); cases e; exact ⟨.none_str _ _, .none_str _ _, .none_str _ _⟩
    | tup _ p2 _ q2 _ => cases (show u = Value.ref p2 from r2); obtain ⟨_, _, k⟩ := hs.t _ _ q2; cases e; exact ⟨.none_tuple k hu, .none_tuple k hu, .none_tuple k hu⟩
    | lst _ p2 _ q2 _ => cases (show u = Value.ref p2 from r2); obtain ⟨_, _, k⟩ := hs.l _ _ q2; cases e; exact ⟨.none_list k hu, .none_list k hu, .none_list k hu⟩
  | bl b1 =>
    cases (show v = Value.bool b1 from r1)
    cases asX h2 with
    | oth d v h => rw [jr h] at e; cases e
    | non => cases (show u = Value.none from r2); cases e; exact ⟨.bool_none _, .bool_none _, .bool_none _⟩
    | bl b2 => cases (show u = Value.bool b2 from r2); cases e; exact ⟨.bool_bool _ _, .bool_bool _ _, .bool_bool _ _⟩
    | int i2 => cases e
    | str z2 => obtain ⟨t2, rfl⟩ := (show ∃ t, u = Value.str z2 t from r2); cases e; exact ⟨.bool_str _ _ _, .bool_str _ _ _, .bool_str _ _ _⟩
    | tup _ p2 _ q2 _ => cases (show u = Value.ref p2 from r2); obtain ⟨_, _, hl2⟩ := hs.t _ _ q2; cases e; exact ⟨.bool_tuple _ hl2 hu, .bool_tuple _ hl2 hu, .bool_tuple _ hl2 hu⟩
    | lst _ p2 _ q2 _ => cases (show u = Value.ref p2 from r2); obtain ⟨_, _, hl2⟩ := hs.l _ _ q2; cases e; exact ⟨.bool_list _ hl2 hu, .bool_list _ hl2 hu, .bool_list _ hl2 hu⟩
  | int i1 =>
    obtain ⟨t1, rfl⟩ := (show ∃ t, v = Value.int i1 t from r1)
    cases asX h2 with
    | oth d v h => rw [jr h] at e; cases e
    | non => cases (show u = Value.none from r2); cases e; exact ⟨.int_none _ _, .int_none _ _, .int_none _ _⟩
    | bl b2 => cases e
    | int i2 => obtain ⟨t2, rfl⟩ := (show ∃ t, u = Value.int i2 t from r2); cases e; exact ⟨.int_int _ _ _ _, .int_int _ _ _ _, .int_int _ _ _ _⟩
    | str z2 => obtain ⟨t2, rfl⟩ := (show ∃ t, u = Value.str z2 t from r2); cases e; exact ⟨.int_str _ _ _ _, .int_str _ _ _ _, .int_str _ _ _ _⟩
    | tup _ p2 _ q2 _ => cases (show u = Value.ref p2 from r2); obtain ⟨_, _, hl2⟩ := hs.t _ _ q2; cases e; exact ⟨.int_tuple _ _ hl2 hu, .int_tuple _ _ hl2 hu, .int_tuple _ _ hl2 hu⟩
    | lst _ p2 _ q2 _ => cases (show u = Value.ref p2 from r2); obtain ⟨_, _, hl2⟩ := hs.l _ _ q2; cases e; exact ⟨.int_list _ _ hl2 hu, .int_list _ _ hl2 hu, .int_list _ _ hl2 hu⟩
  | str z1 =>
    obtain ⟨t1, rfl⟩ := (show ∃ t, v = Value.str z1 t from r1)
    cases asX h2 with
    | oth d v h => rw [jr h] at e; cases e
    | non => cases (show u = Value.none from r2); cases e; exact ⟨.str_none _ _, .str_none _ _, .str_none _ _⟩
    | bl b2 => cases (show u = Value.bool b2 from r2); cases e; exact ⟨.str_bool _ _ _, .str_bool _ _ _, .str_bool _ _ _⟩
    | int i2 => obtain ⟨t2, rfl⟩ := (show ∃ t, u = Value.int i2 t from r2); cases e; exact ⟨.str_int _ _ _ _, .str_int _ _ _ _, .str_int _ _ _ _⟩
    | str z2 => obtain ⟨t2, rfl⟩ := (show ∃ t, u = Value.str z2 t from r2); cases e; exact ⟨.str_str _ _ _ _, .str_str _ _ _ _, .str_str _ _ _ _⟩
    | tup _ p2 _ q2 _ => cases (show u = Value.ref p2 from r2); obtain ⟨_, _, hl2⟩ := hs.t _ _ q2; cases e; exact ⟨.str_tuple _ _ hl2 hu, .str_tuple _ _ hl2 hu, .str_tuple _ _ hl2 hu⟩
    | lst _ p2 _ q2 _ => cases (show u = Value.ref p2 from r2); obtain ⟨_, _, hl2⟩ := hs.l _ _ q2; cases e; exact ⟨.str_list _ _ hl2 hu, .str_list _ _ hl2 hu, .str_list _ _ hl2 hu⟩
  | tup _ p1 _ q1 _ =>
    cases (show v = Value.ref p1 from r1); obtain ⟨_, _, hl1⟩ := hs.t _ _ q1
    cases asX h2 with
    | oth d v h => rw [jr h] at e; cases e
    | non => cases (show u = Value.none from r2); cases e; exact ⟨.tuple_none hl1 hu, .tuple_none hl1 hu, .tuple_none hl1 hu⟩
    | bl b2 => cases (show u = Value.bool b2 from r2); cases e; exact ⟨.tuple_bool _ hl1 hu, .tuple_bool _ hl1 hu, .tuple_bool _ hl1 hu⟩
    | int i2 => obtain ⟨t2, rfl⟩ := (show ∃ t, u = Value.int i2 t from r2); cases e; exact ⟨.tuple_int _ _ hl1 hu, .tuple_int _ _ hl1 hu, .tuple_int _ _ hl1 hu⟩
    | str z2 => obtain ⟨t2, rfl⟩ := (show ∃ t, u = Value.str z2 t from r2); cases e; exact ⟨.tuple_str _ _ hl1 hu, .tuple_str _ _ hl1 hu, .tuple_str _ _ hl1 hu⟩
    | tup _ p2 _ q2 _ => exact absurd ⟨rfl, rfl⟩ (hc _ _).1
    | lst _ p2 _ q2 _ => cases (show u = Value.ref p2 from r2); obtain ⟨_, _, hl2⟩ := hs.l _ _ q2; cases e; exact ⟨.tuple_list hl1 hl2 hu, .tuple_list hl1 hl2 hu, .tuple_list hl1 hl2 hu⟩
  | lst _ p1 _ q1 _ =>
    cases (show v = Value.ref p1 from r1); obtain ⟨_, _, hl1⟩ := hs.l _ _ q1
    cases asX h2 with
    | oth d v h => rw [jr h] at e; cases e
    | non => cases (show u = Value.none from r2); cases e; exact ⟨.list_none hl1 hu, .list_none hl1 hu, .list_none hl1 hu⟩
    | bl b2 => cases (show u = Value.bool b2 from r2); cases e; exact ⟨.list_bool _ hl1 hu, .list_bool _ hl1 hu, .list_bool _ hl1 hu⟩
    | int i2 => obtain ⟨t2, rfl⟩ := (show ∃ t, u = Value.int i2 t from r2); cases e; exact ⟨.list_int _ _ hl1 hu, .list_int _ _ hl1 hu, .list_int _ _ hl1 hu⟩
    | str z2 => obtain ⟨t2, rfl⟩ := (show ∃ t, u = Value.str z2 t from r2); cases e; exact ⟨.list_str _ _ hl1 hu, .list_str _ _ hl1 hu, .list_str _ _ hl1 hu⟩
    | tup _ p2 _ q2 _ => cases (show u = Value.ref p2 from r2); obtain ⟨_, _, hl2⟩ := hs.t _ _ q2; cases e; exact ⟨.list_tuple hl1 hl2 hu, .list_tuple hl1 hl2 hu, .list_tuple hl1 hl2 hu⟩
    | lst _ p2 _ q2 _ => exact absurd ⟨rfl, rfl⟩ (hc _ _).2
theorem sX {xs : List V} {its : List Value} (r : Vals xs its) {j : Nat} (h : j < its.toArray.size) : ∃ x, xs[j]? = some x ∧ RelV x its.toArray[j] := by
  have hl := r.length
  have h' : j < its.length := by simpa using h
  obtain ⟨x, hx⟩ : ∃ x, xs[j]? = some x := ⟨xs[j]'(by omega), List.getElem?_eq_getElem (by omega)⟩
  obtain ⟨u, hu, ru⟩ := r.get hx
  rw [List.getElem?_eq_getElem h'] at hu
  cases hu
  exact ⟨x, hx, by simpa using ru⟩
theorem oM (hs : fg K H s) {n : Nat} (ih : ∀ (A : Around) (d1 d2 : D) (b : Bool) (x y : V) (v u : Value), A.units + n < cLine → Rep K H Ω d1 x → Rep K H Ω d2 y → RelV x v → RelV y u → cZ n d1 d2 = some b → SeqAt.EqAt A s v u b)
    {A : Around} {d1 d2 : D} {b : Bool} {x y : V} {v u : Value} (hu : A.units + (n + 1) < cLine) (h1 : cm K H Ω d1 x) (h2 : cm K H Ω d2 y) (r1 : RelV x v) (r2 : RelV y u) (e : cZ (n + 1) d1 d2 = some b) : SeqAt.RcAt A s v u b ∧ SeqAt.RcNeAt A s v u (!b) := by
  have items : ∀ {xs ys : List D} {vs ws : List V} {i1 i2 : List Value} {ee : Nat → Bool}, au K H Ω xs vs → au K H Ω ys ws → Vals vs i1 → Vals ws i2 → (∀ i x y, xs[i]? = some x → ys[i]? = some y → cZ n x y = some (ee i)) →
      ∀ j (q1 : j < i1.toArray.size) (q2 : j < i2.toArray.size), SeqAt.EqAt A.in1 s i1.toArray[j] i2.toArray[j] (ee j) := by
    intro xs ys vs ws i1 i2 ee p1 p2 p3 p4 he j q1 q2
    obtain ⟨x1, g1, g2⟩ := sX p3 q1
    obtain ⟨y1, g3, g4⟩ := sX p4 q2
    have l1 := p1.length
    have l2 := p2.length
    have b1 : j < xs.length := by rw [l1]; exact (List.getElem?_eq_some_iff.mp g1).1
    have b2 : j < ys.length := by rw [l2]; exact (List.getElem?_eq_some_iff.mp g3).1
    obtain ⟨x2, z1, z2⟩ := p1.get (List.getElem?_eq_getElem b1)
    obtain ⟨y2, z3, z4⟩ := p2.get (List.getElem?_eq_getElem b2)
    rw [g1] at z1; cases z1
    rw [g3] at z3; cases z3
    exact ih A.in1 _ _ _ _ _ _ _ (by show A.units + 1 + n < cLine; omega) z2 z4 g2 g4 (he j _ _ (List.getElem?_eq_getElem b1) (List.getElem?_eq_getElem b2))
  by_cases ht : ∃ xs ys, d1 = .tup xs ∧ d2 = .tup ys
  · obtain ⟨xs, ys, rfl, rfl⟩ := ht
    obtain ⟨p1, vs, e1, q1, w1⟩ := dY h1
    obtain ⟨p2, ws, e2, q2, w2⟩ := dY h2
    cases e1; cases e2
    cases (show v = Value.ref p1 from r1); cases (show u = Value.ref p2 from r2)
    obtain ⟨i1, g1, hl1⟩ := hs.t _ _ q1
    obtain ⟨i2, g2, hl2⟩ := hs.t _ _ q2
    obtain ⟨ee, he, hb⟩ := qg (f := cZ n) e
    have hb' : b = ((List.range (min i1.toArray.size i2.toArray.size)).all ee && i1.toArray.size == i2.toArray.size) := by
      rw [hb, List.size_toArray, List.size_toArray, ← g1.length, ← g2.length, ← w1.length, ← w2.length]
    rw [hb']
    exact ⟨.tuples hl1 hl2 (by omega) (items w1 w2 g1 g2 he), .tuples hl1 hl2 (by omega) (items w1 w2 g1 g2 he)⟩
  · by_cases hl : ∃ xs ys, d1 = .lst xs ∧ d2 = .lst ys
    · obtain ⟨xs, ys, rfl, rfl⟩ := hl
      obtain ⟨p1, vs, e1, q1, w1⟩ := dv h1
      obtain ⟨p2, ws, e2, q2, w2⟩ := dv h2
      cases e1; cases e2
      cases (show v = Value.ref p1 from r1); cases (show u = Value.ref p2 from r2)
      obtain ⟨i1, g1, hl1⟩ := hs.l _ _ q1
      obtain ⟨i2, g2, hl2⟩ := hs.l _ _ q2
      have e' : dP (cZ n) xs ys = some b := e
      have s1 : i1.toArray.size = xs.length := by rw [List.size_toArray, ← g1.length, ← w1.length]
      have s2 : i2.toArray.size = ys.length := by rw [List.size_toArray, ← g2.length, ← w2.length]
      by_cases hlen : xs.length = ys.length
      · obtain ⟨ee, he, hb⟩ := qR e' hlen
        have hb' : b = (List.range i1.toArray.size).all ee := by rw [hb, s1]
        rw [hb']
        exact ⟨.lists hl1 hl2 (by rw [s1, s2, hlen]) (by omega) (items w1 w2 g1 g2 he), .lists hl1 hl2 (by rw [s1, s2, hlen]) (by omega) (items w1 w2 g1 g2 he)⟩
      · have hb := sJ e' hlen
        subst hb
        have hne : (i1.toArray.size != i2.toArray.size) = true := by rw [s1, s2]; simpa using hlen
        exact ⟨.lists_lengths hl1 hl2 hne (by omega), .lists_lengths hl1 hl2 hne (by omega)⟩
    · have := nT hs (A := A) (by omega) h1 h2 r1 r2 e fun xs ys => ⟨fun z => ht ⟨xs, ys, z⟩, fun z => hl ⟨xs, ys, z⟩⟩
      exact ⟨this.1, this.2.1⟩
theorem rP (hs : fg K H s) : ∀ (n : Nat) (A : Around) (d1 d2 : D) (b : Bool) (x y : V) (v u : Value), A.units + n < cLine → Rep K H Ω d1 x → Rep K H Ω d2 y → RelV x v → RelV y u → cZ n d1 d2 = some b → SeqAt.EqAt A s v u b := by
  intro n
  induction n with
  | zero =>
    intro A d1 d2 b x y v u hu h1 h2 r1 r2 e
    refine (nT hs (by omega) h1.b h2.b r1 r2 e fun xs ys => ⟨?_, ?_⟩).2.2
    · rintro ⟨rfl, rfl⟩; cases e
    · rintro ⟨rfl, rfl⟩; cases e
  | succ n ih =>
    intro A d1 d2 b x y v u hu h1 h2 r1 r2 e
    by_cases hc : ∀ xs ys, ¬ (d1 = .tup xs ∧ d2 = .tup ys) ∧ ¬ (d1 = .lst xs ∧ d2 = .lst ys)
    · exact (nT hs (by omega) h1.b h2.b r1 r2 e hc).2.2
    · have rc := (oM hs ih hu h1.b h2.b r1 r2 e).1
      have refs : ∃ p q, x = .ref p ∧ y = .ref q := by
        apply Classical.byContradiction
        intro hn
        apply hc
        intro xs ys
        refine ⟨?_, ?_⟩
        · rintro ⟨rfl, rfl⟩
          obtain ⟨p, _, e1, _⟩ := (show ∃ a vs, _ from h1)
          obtain ⟨q, _, e2, _⟩ := (show ∃ a vs, _ from h2)
          exact hn ⟨p, q, e1, e2⟩
        · rintro ⟨rfl, rfl⟩
          obtain ⟨p, _, e1, _⟩ := (show ∃ a vs, _ from h1)
          obtain ⟨q, _, e2, _⟩ := (show ∃ a vs, _ from h2)
          exact hn ⟨p, q, e1, e2⟩
      obtain ⟨p, q, rfl, rfl⟩ := refs
      cases (show v = Value.ref p from r1); cases (show u = Value.ref q from r2)
      by_cases hpq : p = q
      · subst hpq
        rw [rR hs (n + 1) h1 h2 e]
        exact .same _
      · exact .of_refs hpq rc
end
section
variable {X : Cx}
noncomputable def gEq (d1 d2 : D) : Option DV := (cZ 8 d1 d2).map fun b => .val (.bl b)
noncomputable def gNe (d1 d2 : D) : Option DV := (cZ 8 d1 d2).map fun b => .val (.bl (!b))
noncomputable def tQ (K : PySem.W.Frag) (neg : Bool) : R2 := fun x y H Q => ∃ Ω d1 d2 b, cm K H Ω d1 x ∧ cm K H Ω d2 y ∧ cZ 8 d1 d2 = some b ∧ Q (.bl (if neg then !b else b)) H
theorem uF (hu : X.A.units + 64 < cLine) : OpR X (compareOp .Eq) (tQ X.K false) := by
  intro pins s σ H x y v u Q I rx ry h
  obtain ⟨Ω, d1, d2, b, h1, h2, e, q⟩ := h
  exact (oM (fg.of I) (n := 7) (rP (fg.of I) 7) (by omega) h1 h2 rx ry e).1 _ _ _ _ ⟨.bl b, H, I, rfl, q⟩
theorem zk (hu : X.A.units + 64 < cLine) : OpR X (compareOp .NotEq) (tQ X.K true) := by
  intro pins s σ H x y v u Q I rx ry h
  obtain ⟨Ω, d1, d2, b, h1, h2, e, q⟩ := h
  exact (oM (fg.of I) (n := 7) (rP (fg.of I) 7) (by omega) h1 h2 rx ry e).2 _ _ _ _ ⟨.bl (!b), H, I, rfl, q⟩
theorem cD (hu : X.A.units + 64 < cLine) : gh X .Eq gEq := ⟨_, uF hu, by
  intro E σ H δ Ω x y d1 d2 z Q R r1 r2 hz h
  obtain ⟨b, e, rfl⟩ := Option.map_eq_some_iff.mp hz
  exact ⟨Ω, d1, d2, b, r1, r2, e, h.now R rfl⟩⟩
theorem fH (hu : X.A.units + 64 < cLine) : gh X .NotEq gNe := ⟨_, zk hu, by
  intro E σ H δ Ω x y d1 d2 z Q R r1 r2 hz h
  obtain ⟨b, e, rfl⟩ := Option.map_eq_some_iff.mp hz
  exact ⟨Ω, d1, d2, b, r1, r2, e, h.now R rfl⟩⟩
end
end DL
namespace DL
open PySem PySem.Spec PyProof.Rows L2
section
variable {X : Cx} {E : Str → Hp → Prop} {pos p2 : Pos} {e : Expr} {f : DM DV} {lo hi : Option Expr} {fl fu : DM (Option Int)}
end
end DL
namespace DL
open PySem PySem.Spec PyProof.Rows L2
theorem qN {K : PySem.W.Frag} {mg : Str → Option Value} {x : Str} {i : Int} {t : Tok} (h : mg x = some (.int i t)) : ki K mg x (.int i) := ⟨_, .int i, h, ⟨t, rfl⟩, fun _ _ => rfl⟩
theorem xB {K : PySem.W.Frag} {ce : Str → Value} {M : List D → Ro} {H : Hp} {a : Addr} {ns : List Int} {E : XK} (hM : M [.scr ns] = .ok (.bl true)) (hO : lK H) (hS : SqL K H a (ns.map V.int)) : spP K ce 1 M [.ref a] H (fun v _ => v = .bl true) E := by
  refine ⟨rfl, fun _ => none, [.scr ns], fun _ _ q => (by cases q), fun _ _ q => (by cases q), .cons (show ∃ a, _ from ⟨a, rfl, ?_⟩) .nil, ?_⟩
  · rcases hS with (h | ⟨o, h⟩) | h
    · rcases hO a with z | ⟨o, xs, z⟩ <;> (rw [z] at h; cases h)
    · exact .inl ⟨o, h⟩
    · exact .inr h
  · rw [hM]
    exact fun H' Ω' _ _ v r => r
end DL
namespace DL
open PySem L2
theorem tK {fe : DM DV} {fc : DM Bool} {rest : DSt} {g : D → D} {p : D → Bool} : ∀ (ds : List D) (s0 : Sl) (out : List D), out.length + ds.length ≤ sizeLine →
    (∀ d ∈ ds, fc (.sh d :: rest) = .ok (p d) (.sh d :: rest)) → (∀ d ∈ ds, p d = true → fN fe (.sh d :: rest) = .ok (.val (g d)) (.sh d :: rest)) →
    bK (bw 0) fc fe ds (s0 :: rest) out = some (out ++ (ds.filter p).map g)
  | [], _, out, _, _, _ => by simp [bK]
  | d :: ds, s0, out, hl, hc, he => by
    have h1 := hc d List.mem_cons_self
    have hl' : out.length + (ds.length + 1) ≤ sizeLine := hl
    have ih := fun out' (h : out'.length + ds.length ≤ sizeLine) => tK ds (.sh d) out' h (fun x hx => hc x (List.mem_cons_of_mem _ hx)) (fun x hx => he x (List.mem_cons_of_mem _ hx))
    unfold bK
    show (match fc (.sh d :: rest) with | .ok true δ2 => _ | .ok false δ2 => _ | _ => _) = _
    rw [h1]
    cases hp : p d with
    | false =>
      show bK (bw 0) fc fe ds (.sh d :: rest) out = _
      rw [ih out (by omega), List.filter_cons_of_neg (by simp [hp])]
    | true =>
      show (match fN fe (.sh d :: rest) with | .ok (.val v) δ3 => _ | _ => _) = _
      rw [he d List.mem_cons_self hp]
      show (if out.length < sizeLine then bK (bw 0) fc fe ds (.sh d :: rest) (out ++ [g d]) else none) = _
      rw [if_pos (by omega), ih _ (by rw [List.length_append, List.length_singleton]; omega), List.filter_cons_of_pos hp, List.map_cons, List.append_assoc]
      rfl
theorem comp_map {fe : DM DV} {rest : DSt} {g : D → D} (ds : List D) (s0 : Sl) (hl : ds.length ≤ sizeLine) (he : ∀ d ∈ ds, fN fe (.sh d :: rest) = .ok (.val (g d)) (.sh d :: rest)) :
    bK (bw 0) (.ret true) fe ds (s0 :: rest) [] = some (ds.map g) := by
  have := tK (fc := .ret true) (p := fun _ => true) (g := g) ds s0 [] (by simpa using hl) (fun _ _ => rfl) (fun d hd _ => he d hd)
  rw [List.filter_eq_self.mpr (fun _ _ => rfl), List.nil_append] at this
  exact this
noncomputable def okD : Nat → D → Bool
  | _, .non => true
  | _, .int _ => true
  | _, .str _ => true
  | _, .bl _ => true
  | n + 1, .tup xs => xs.all (okD n)
  | n + 1, .lst xs => xs.all (okD n)
  | _, _ => false
theorem ei : ∀ (n : Nat) (d : D), okD n d = true → cZ n d d = some true := by
  intro n
  induction n with
  | zero => intro d h; cases d <;> first | (cases h; done) | rfl | exact congrArg some (beq_self_eq_true _)
  | succ n ih =>
    have items : ∀ xs : List D, xs.all (okD n) = true → dP (cZ n) xs xs = some true := by
      intro xs
      induction xs with
      | nil => intro _; rfl
      | cons x xs ihx =>
        intro h
        rw [List.all_cons, Bool.and_eq_true] at h
        unfold dP
        rw [ih x h.1, ihx h.2]
        rfl
    intro d h
    cases d with
    | tup xs => exact items xs h
    | lst xs => exact items xs h
    | _ => first | (cases h; done) | rfl | exact congrArg some (beq_self_eq_true _)
theorem yW {lo : Int} {n : Nat} {d : D} (h : d ∈ b9 lo n) : ∃ k : Nat, k < n ∧ d = .int (lo + k) := by
  unfold b9 at h
  obtain ⟨k, hk, e⟩ := List.mem_map.mp h
  exact ⟨k, List.mem_range.mp hk, e.symm⟩
theorem oY {n : Nat} {d : D} (h : d ∈ b9 0 n) : ∃ k : Nat, k < n ∧ d = .int (k : Int) := by
  obtain ⟨k, hk, e⟩ := yW h
  exact ⟨k, hk, by rw [e, Int.zero_add]⟩
theorem vp (lo : Int) (n : Nat) : (b9 lo n).length = n := by unfold b9; rw [List.length_map, List.length_range]
end DL
namespace DL
open PySem L2
section
variable {f f1 f2 g fo : DM DV} {fa r : DM (List DV)} {δ δ1 δ2 δ3 : DSt} {a a1 a2 : DV} {d d1 d2 : D} {z : DV} {as : List DV} {ds es : List D} {i n : Nat} {R : Rs Fl} {S S1 : DM Fl} {c c1 : DM Bool} {b b1 : Bool}
theorem ai (h : δ[i]? = some (.sh d)) : aa i δ = .ok (.val d) δ := by unfold aa; rw [h]
theorem dA (h : δ[i]? = some (.ow ds)) : aa i δ = .ok (.slot i) δ := by unfold aa; rw [h]
theorem aj : fC d δ = .ok (.val d) δ := rfl
theorem aB : ah δ = .ok [] δ := rfl
theorem aq (h1 : f δ = .ok a δ1) (h2 : r δ1 = .ok as δ2) : ae f r δ = .ok (norm a :: as) δ2 := by unfold ae fN DM.bd DM.ret; simp only [h1, h2]
theorem ak {gg : D → D → Option DV} (h1 : f1 δ = .ok a1 δ1) (h2 : f2 δ1 = .ok a2 δ2) (e1 : res δ2 (norm a1) = some d1) (e2 : res δ2 (norm a2) = some d2) (hg : gg d1 d2 = some z) : af f1 f2 gg δ = .ok z δ2 := by
  unfold af fN DM.bd DM.ret; simp only [h1, h2, e1, e2, hg]
theorem jY {gg : D → Option DV} (h1 : f δ = .ok a δ1) (e1 : res δ1 (norm a) = some d1) (hg : gg d1 = some z) : fUn f gg δ = .ok z δ1 := by
  unfold fUn fN DM.bd DM.ret; simp only [h1, e1, hg]
theorem cy {gg : List D → Option DV} (h : fa δ = .ok as δ1) (e : iN δ1 as = some ds) (hg : gg ds = some z) : fCB fa gg δ = .ok z δ1 := by
  unfold fCB DM.bd; simp only [h, e, hg]
theorem eG {M : List D → Ro} (h : fa δ = .ok as δ1) (e : bY as = some ds) (hn : ds.length = n) (hM : M ds = .ok d) : aR n fa M δ = .ok (.val d) δ1 := by
  unfold aR DM.bd; simp only [h, e, hn, if_true, hM]
noncomputable def pP : Ro → DSt → Rs DV
  | .un, _ => .un
  | .er c, _ => .er c
  | .ok d, δ => .ok (.val d) δ
  | .own es, δ => .ok (.own es) δ
theorem yn {M : List D → Ro} {ro : Ro} {Z : Rs DV} (h : fa δ = .ok as δ1) (e : bY as = some ds) (hn : ds.length = n) (hM : M ds = ro) (hr : pP ro δ1 = Z) : aR n fa M δ = Z := by
  unfold aR DM.bd; simp only [h, e, hn, if_true, hM]; cases ro <;> exact hr
theorem xq : pP (.ok d) δ = .ok (.val d) δ := rfl
theorem d8 (h : fa δ = .ok as δ1) (e : bY as = some ds) (hl : ds.length ≤ sizeLine) : bu fa δ = .ok (.val (.tup ds)) δ1 := by
  unfold bu DM.bd; simp only [h, e, hl, if_true]
theorem eu (h : fa δ = .ok as δ1) (e : bY as = some ds) (hl : ds.length ≤ sizeLine) : bF fa δ = .ok (.own ds) δ1 := by
  unfold bF DM.bd; simp only [h, e, hl, if_true]
theorem aS (h : f δ = .ok a δ1) (e : norm a = .val d) : aL i f δ = .ok .nx (δ1.set i (.sh d)) := by
  unfold aL fN DM.bd DM.ret; simp only [h, e]
theorem ko (h : f δ = .ok (.own ds) δ1) : fz i f δ = .ok .nx (δ1.set i (.ow ds)) := by
  unfold fz DM.bd; simp only [h]
noncomputable def mP (r : Rs Fl) (S1 : DM Fl) : Rs Fl := match r with
  | .ok .nx δ' => S1 δ'
  | r => r
theorem av {R1 : Rs Fl} (h1 : S δ = R1) (h2 : mP R1 S1 = R) : ax S S1 δ = R := by unfold ax; rw [h1]; exact h2
theorem az (h : S1 δ = R) : mP (.ok .nx δ) S1 = R := h
theorem fh : mP (.ok (.rt d) δ) S1 = .ok (.rt d) δ := rfl
theorem bh : aM δ = .ok .nx δ := rfl
noncomputable def mi (r : Rs DV) : Rs Fl := match r with
  | .un => .un
  | .er c => .er c
  | .ok (.val d) δ => .ok (.rt d) δ
  | .ok (.own ds) δ => .ok (.rto ds) δ
  | .ok (.slot i) δ => (match δ[i]? with | some (.ow ds) => .ok (.rto ds) (δ.set i .no) | _ => .un)
  | .ok (.fld _ _) _ => .un
theorem bQ {Z : Rs DV} (h : f δ = Z) (h2 : mi Z = R) : aF f δ = R := by
  subst h
  rw [← h2]
  unfold aF DM.bd mi
  cases f δ with
  | un => rfl
  | er c => rfl
  | ok a δ' => cases a <;> rfl
theorem cN : mi (.ok (.val d) δ) = .ok (.rt d) δ := rfl
theorem lD : mi (.ok (.own ds) δ) = .ok (.rto ds) δ := rfl
theorem aK (h : f δ = .ok a δ1) (e : res δ1 (norm a) = some (.bl b)) : aA f δ = .ok b δ1 := by unfold aA fN DM.bd DM.ret; simp only [h, e]
theorem lq (ho : δ[i]? = some (.ow es)) (h : f δ = .ok a δ1) (e : norm a = .val d) (e2 : δ1[i]? = some (.ow ds)) (hl : ds.length < sizeLine) : dU i f δ = .ok .nx (δ1.set i (.ow (ds ++ [d]))) := by
  unfold dU hZ sS fN DM.bd DM.ret; simp only [ho, if_true, h, e, e2, hl]
theorem kh {fi : DM (List D)} {t : D → DSt → Option DSt} {fc : DM Bool} {fe : DM DV} {sel : List (Option Nat)} (h : fi δ = .ok ds δ1) (hc : bK t fc fe ds (iG δ1 sel) [] = some es) : fLC fi t fc fe sel δ = .ok (.own es) δ1 := by
  unfold fLC DM.bd; simp only [h, hc]
theorem kM {j : Int} (h : fa δ = .ok as δ1) (e : as = [.val (.int j)]) (hs : iu j = true) : dQ fa δ = .ok (b9 0 j.toNat) δ1 := by subst e; unfold dQ DM.bd; simp only [h, hs, if_true]
theorem mV {gg : D → Option (List D)} (h : f δ = .ok a δ1) (e : norm a = .val d) (hg : gg d = some ds) : fIt f gg δ = .ok ds δ1 := by unfold fIt fN DM.bd DM.ret; simp only [h, e, hg]
theorem mf {fi : DM (List D)} {t : D → DSt → Option DSt} (h : fi δ = .ok ds δ1) (hr : cX t S ds δ1 = R) : fE fi t S δ = R := by unfold fE DM.bd; simp only [h]; exact hr
theorem vb {Z : Rs DV} (h : f δ = .ok a δ1) (e : res δ1 (norm a) = some (.bl b)) (hb : b = true) (hr : g δ1 = Z) : bW f g δ = Z := by
  unfold bW jj fN DM.bd DM.ret; simp only [h, e, hb, if_true]; exact hr
theorem AF (h : f δ = .ok a δ1) (e : res δ1 (norm a) = some (.bl b)) (hb : b = false) : bW f g δ = .ok (.val (.bl false)) δ1 := by
  unfold bW jj fN DM.bd DM.ret; simp only [h, e, hb, Bool.false_eq_true, if_false]; rfl
theorem zp (h : f δ = .ok a δ1) (e : res δ1 (norm a) = some (.bl b)) : cI f δ = .ok (.val (.bl (!b))) δ1 := by
  unfold cI jj fN DM.bd DM.ret; simp only [h, e]; rfl
theorem eX (h : c δ = .ok b δ1) : bO c δ = .ok (!b) δ1 := by unfold bO DM.bd; simp only [h]; rfl
theorem sW {Z : Rs Bool} (h : c δ = .ok b δ1) (hb : b = true) (hr : c1 δ1 = Z) : cO c c1 δ = Z := by unfold cO DM.bd; simp only [h, hb, if_true]; exact hr
theorem r6 (h : c δ = .ok b δ1) (hb : b = false) : cO c c1 δ = .ok false δ1 := by unfold cO DM.bd; simp only [h, hb, Bool.false_eq_true, if_false]; rfl
theorem lN {Z : Rs Bool} (h : c δ = .ok b δ1) (hb : b = false) (hr : c1 δ1 = Z) : bA c c1 δ = Z := by unfold bA DM.bd; simp only [h, hb, Bool.false_eq_true, if_false]; exact hr
theorem aJ (h : c δ = .ok b δ1) (hr : (if b = true then S δ1 else S1 δ1) = R) : fIf c S S1 δ = R := by unfold fIf DM.bd; simp only [h]; cases b <;> exact hr
theorem An {Z : Rs DV} (h : f δ = .ok a δ1) (e : res δ1 (norm a) = some (.bl b)) (hr : (if b = true then g δ1 else .ok (.val (.bl false)) δ1) = Z) : bW f g δ = Z := by
  cases b with
  | true => exact vb h e rfl hr
  | false => exact (AF h e rfl).trans hr
theorem AD {Z : Rs Bool} (h : c δ = .ok b δ1) (hr : (if b = true then .ok true δ1 else c1 δ1) = Z) : bA c c1 δ = Z := by unfold bA DM.bd; simp only [h]; cases b <;> exact hr
theorem bS {α : Type} {x y z : α} (hb : b = true) (h : x = z) : (if b = true then x else y) = z := by rw [hb]; exact h
theorem aW {α : Type} {x y z : α} (hb : b = false) (h : y = z) : (if b = true then x else y) = z := by rw [hb]; exact h
theorem kB {t : D → DSt → Option DSt} (ht : t d δ = some δ1) (hb : S δ1 = .ok .nx δ2) (hr : cX t S ds δ2 = R) : cX t S (d :: ds) δ = R := by unfold cX; rw [ht]; dsimp only; rw [hb]; exact hr
theorem kT {body : DM Fl} (h : body (ds.map .sh ++ List.replicate (n - ds.length) .no) = .ok (.rt d) δ1) : bV body n ds = .ok d := by unfold bV; rw [h]
theorem lP {body : DM Fl} (h : body (ds.map .sh ++ List.replicate (n - ds.length) .no) = .ok (.rto es) δ1) : bV body n ds = .own es := by unfold bV; rw [h]
theorem iK {i j : Int} : bj (.int i) (.int j) = some (.val (.int (i + j))) := rfl
theorem nN {xs ys : List D} (h : xs.length + ys.length ≤ sizeLine) : bj (.lst xs) (.lst ys) = some (.own (xs ++ ys)) := if_pos h
theorem qB {i j : Int} (h : gH i j = true) : eM (.int i) (.int j) = some (.val (.int (i * j))) := if_pos h
theorem qS {i j : Int} (h : cdiv j = true) : ej (.int i) (.int j) = some (.val (.int (i / j))) := if_pos h
theorem gu {i j : Int} (h : decide (0 < j) = true) : bD (.int i) (.int j) = some (.val (.int (i % j))) := if_pos h
theorem lJ {j : Int} (h : atI ds j = some d) : gIx (.lst ds) (.int j) = some (.val d) := by show (atI ds j).map DV.val = _; rw [h]; rfl
theorem qH {j : Int} (h : atI ds j = some d) : gIx (.tup ds) (.int j) = some (.val d) := by show (atI ds j).map DV.val = _; rw [h]; rfl
theorem pB {α : Type} (x : α) (xs : List α) : atI (x :: xs) 0 = some x := by
  unfold atI ixN
  rw [if_pos (Int.le_refl 0), if_pos (by rw [List.length_cons]; omega)]
  rfl
theorem mJ {α : Type} {xs : List α} {j : Int} {x : α} (h0 : 0 ≤ j) (h : xs[j.toNat]? = some x) : atI xs j = some x := by
  have hl := (List.getElem?_eq_some_iff.mp h).1
  unfold atI ixN
  rw [if_pos h0, if_pos (by omega)]
  exact h
theorem cg {b : Bool} (h : cZ 8 d1 d2 = some b) : gEq d1 d2 = some (.val (.bl b)) := by unfold gEq; rw [h]; rfl
theorem eR {b : Bool} (h : cZ 8 d1 d2 = some b) : gNe d1 d2 = some (.val (.bl (!b))) := by unfold gNe; rw [h]; rfl
theorem yX {i j : Int} (h1 : -18446744073709551616 < i) (h2 : i < 18446744073709551616) : gH i j = true := by unfold gH; rw [decide_eq_true h1, decide_eq_true h2]; rfl
theorem qo {i j : Int} (h1 : -18446744073709551616 < j) (h2 : j < 18446744073709551616) : gH i j = true := by unfold gH; rw [decide_eq_true h1, decide_eq_true h2]; simp
theorem jC {j : Int} (h1 : -4611686018427387904 ≤ j) (h2 : j < 4611686018427387904) : iu j = true := by unfold iu; simp; exact ⟨by omega, by omega⟩
end
theorem zS {x : Int} : gIs "int" (.int x) = some (.val (.bl true)) := by simp [gIs, isD, il, tyD, isExc]
theorem wo {x : Int} : gIs "bool" (.int x) = some (.val (.bl false)) := by simp [gIs, isD, il, tyD, isExc]
theorem Aw {x : Str} : gIs "str" (.str x) = some (.val (.bl true)) := by simp [gIs, isD, il, tyD, isExc]
theorem zZ {x : List D} : gIs "list" (.lst x) = some (.val (.bl true)) := by simp [gIs, isD, il, tyD, isExc]
theorem rF {x : List D} : gIs "tuple" (.tup x) = some (.val (.bl true)) := by simp [gIs, isD, il, tyD, isExc]
end DL
namespace DL
open PySem PySem.Spec PyProof.Rows L2
section
variable {X : Cx} {E : Str → Hp → Prop} {pos : Pos} {a b c e : Expr} {f g h : DM DV} {mp : List Nat}
noncomputable def iy : List D → Option (List Bool)
  | [] => some []
  | .bl i :: r => (iy r).map fun xs => i :: xs
  | _ :: _ => none
theorem qb {K : PySem.W.Frag} {H : Hp} {Ω : Om} : ∀ {ds : List D} {vs : List V} {xs : List Bool}, au K H Ω ds vs → iy ds = some xs → vs = xs.map V.bl
  | [], _, _, r, h => by cases h; exact r
  | d :: ds, _, xs, r, h => by
    obtain ⟨v, q, e1, e2, e3⟩ := (show ∃ v r, _ from r)
    cases d with
    | bl x =>
      obtain ⟨ys, h1, rfl⟩ := Option.map_eq_some_iff.mp (show (iy ds).map _ = _ from h)
      rw [e1, qb e3 h1, (show v = .bl x from e2)]
      rfl
    | _ => cases h
noncomputable def lY : List D → Option DV
  | [.lst ds] => (iy ds).map fun ns => .val (.bl (ns.all id))
  | _ => none
theorem xS (hc : X.calm = true) : fV X (.builtin "all") lY := ⟨_, Ar hc, by
  intro E σ H δ Ω vs ds z Q R r hz h
  unfold lY at hz
  split at hz
  · obtain ⟨ns, h1, rfl⟩ := Option.map_eq_some_iff.mp hz
    obtain ⟨v, e, rv⟩ := fD r
    obtain ⟨a, ws, e1, e2, e3⟩ := dv rv
    subst e1
    have hw := qb e3 h1
    subst hw
    exact ⟨a, ns, e, .inl e2, h.now R rfl⟩
  · cases hz⟩
theorem sy {K : PySem.W.Frag} {H : Hp} {Ω : Om} {d d' : D} {vs : List V} (h : lr K H Ω [d, d'] vs) : ∃ v v', vs = [v, v'] ∧ cm K H Ω d v ∧ cm K H Ω d' v' := by
  obtain ⟨v, r, e1, e2, e3⟩ := h
  obtain ⟨v', r', e1', e2', e3'⟩ := e3
  cases (show r' = [] from e3')
  subst e1'
  exact ⟨v, v', e1, e2, e2'⟩
noncomputable def gv (i j : Int) : Int := if j < i then j else i
noncomputable def mE : List D → Option DV
  | [.int i, .int j] => some (.val (.int (gv i j)))
  | _ => none
theorem vZ (hc : X.calm = true) : fV X (.builtin "min") mE := ⟨_, vv hc, by
  intro E σ H δ Ω vs ds z Q R r hz h
  unfold mE at hz
  split at hz
  · cases hz
    obtain ⟨v, v', e, rv, rv'⟩ := sy r
    cases (show v = .int _ from rv)
    cases (show v' = .int _ from rv')
    exact ⟨_, _, e, h.now R rfl⟩
  · cases hz⟩
noncomputable def jJ : List D → Option DV
  | [.lst ds] => some (.val (.tup ds))
  | [.tup ds] => some (.val (.tup ds))
  | _ => none
theorem AU : fV X (.type "tuple") jJ := ⟨_, v7, by
  intro E σ H δ Ω vs ds z Q R r hz h
  unfold jJ at hz
  split at hz
  · cases hz
    obtain ⟨v, e, rv⟩ := fD r
    obtain ⟨a, ws, e1, e2, e3⟩ := dv rv
    subst e1
    exact ⟨a, ws, e, .inl ⟨.inl e2, fun p hp => h.allocT R hp e3⟩⟩
  · cases hz
    obtain ⟨v, e, rv⟩ := fD r
    have rv' := rv
    obtain ⟨a, ws, e1, e2, e3⟩ := dY rv
    subst e1
    exact ⟨a, ws, e, .inr ⟨e2, h.now R rv'⟩⟩
  · cases hz⟩
noncomputable def oN : D → Bool
  | .non => true
  | _ => false
theorem se {K : PySem.W.Frag} {H : Hp} {Ω : Om} {d : D} {v : V} (h : cm K H Ω d v) : decide (v = .non) = oN d := by
  cases d with
  | non => cases (show v = .non from h); rfl
  | bl y => cases (show v = .bl y from h); rfl
  | int y => cases (show v = .int y from h); rfl
  | str y => cases (show v = .str y from h); rfl
  | tup ds => obtain ⟨p, vs, e1, e2, e3⟩ := dY h; subst e1; rfl
  | lst ds => obtain ⟨p, vs, e1, e2, e3⟩ := dv h; subst e1; rfl
  | scr ns => obtain ⟨p, e1, e2⟩ := (show ∃ a, _ from h); subst e1; rfl
  | exc c => obtain ⟨p, C, e1, e2⟩ := (show ∃ a C, _ from h); subst e1; rfl
  | key r n => obtain ⟨p, e1, e2⟩ := (show ∃ a, _ from h); subst e1; rfl
  | obj ks vs as bs => obtain ⟨p, a1, a2, a3, kvs, xs, ys, e1, e2⟩ := (show ∃ p a1 a2 a3 kvs xs ys, _ from h); subst e1; rfl
noncomputable def ft : D → D → Option DV
  | d, .non => some (.val (.bl (oN d)))
  | _, _ => none
noncomputable def j9 : D → D → Option DV
  | d, .non => some (.val (.bl (!oN d)))
  | _, _ => none
theorem oR : gh X .Is ft := ⟨_, uH, by
  intro E σ H δ Ω x y d1 d2 z Q R r1 r2 hz h
  unfold ft at hz
  split at hz
  · cases hz
    exact ⟨r2, by rw [se r1]; exact h.now R rfl⟩
  · cases hz⟩
theorem AY : gh X .IsNot j9 := ⟨_, wx, by
  intro E σ H δ Ω x y d1 d2 z Q R r1 r2 hz h
  unfold j9 at hz
  split at hz
  · cases hz
    exact ⟨r2, by rw [se r1]; exact h.now R rfl⟩
  · cases hz⟩
section
variable {tg iter elt : Expr} {ifs : List Expr} {sc : Scope} {fi : DM (List D)} {t : D → DSt → Option DSt} {fc : DM Bool} {fe : DM DV} {N : List Str} {sel : List (Option Nat)}
theorem AQ {i : Nat} {x : Str} {pos' spos : Pos} (B : Blk X N sel sc) (hc : X.calm = true) (hN : X.N.Nodup) (hx : X.N[i]? = some x) (hl : X.env.scope.names.lookup x = some .local) (hi : PID X E tg iter fi)
    (hg : ∀ b, PGD (blk X N sc b) [] tg t) (ht : ∀ b, j7 (blk X N sc b) ifs fc) (he : ∀ b, PED (blk X N sc b) EN elt fe)
    (hsw : swapsWith (.ListComp elt [⟨tg, iter, ifs, 0⟩] sc pos) (some (.Name x pos')) spos.line X.env = pure true)
    (hs : ∀ x, foldedSetIterable iter X.env x = pure x) : ∃ te, DE X.K E te (fLC fi t fc fe sel) ∧ PS X (.Assign [.Name x pos'] (.ListComp elt [⟨tg, iter, ifs, 0⟩] sc pos) spos) (hW te (gI i)) := by
  obtain ⟨wi, p, d⟩ := hi
  exact ⟨_, uj d (fun σ H δ Ω dd x δ' R r e Q h b => (hg b).choose_spec.2 σ H δ Ω dd x δ' R r e Q h) (fun σ H δ Ω R Q h b => (ht b).choose_spec.2 σ H δ Ω R Q h) (fun σ H δ Ω R Q h b => (he b).choose_spec.2 σ H δ Ω R Q h),
    vf (g := fun v σ H Q => ∀ b, (hg b).choose v σ H Q) (ts := fun σ H Q => ∀ b, (ht b).choose σ H Q) (te := fun σ H Q => ∀ b, (he b).choose σ H Q) B hc hN hx hl p
    (fun b pins s σ H v u Q I r h => (hg b).choose_spec.1 pins s σ H v u Q I r (h b)) (fun b pins s σ H Q I h => (ht b).choose_spec.1 pins s σ H Q I (h b)) (fun b pins s σ H Q I h => (he b).choose_spec.1 pins s σ H Q I (h b)) hsw hs⟩
theorem zh (i : Nat) {x : Str} {pos' spos : Pos} (hN : X.N.Nodup) (B : Blk X N sel sc) (hc : X.calm = true) (hi : PID X E tg iter fi)
    (hg : ∀ b, PGD (blk X N sc b) [] tg t) (ht : ∀ b, j7 (blk X N sc b) ifs fc) (he : ∀ b, PED (blk X N sc b) EN elt fe)
    (hx : X.N[i]? = some x := by rfl) (hl : X.env.scope.names.lookup x = some .local := by rfl) (hm : i ∉ mp := by decide)
    (hsw : swapsWith (.ListComp elt [⟨tg, iter, ifs, 0⟩] sc pos) (some (.Name x pos')) spos.line X.env = pure true := by rfl)
    (hs : ∀ x, foldedSetIterable iter X.env x = pure x := by intro _; rfl) : PSD X E mp (.Assign [.Name x pos'] (.ListComp elt [⟨tg, iter, ifs, 0⟩] sc pos) spos) (fz i (fLC fi t fc fe sel)) := by
  obtain ⟨te, d, p⟩ := AQ (i := i) B hc hN hx hl hi hg ht he hsw hs
  exact ⟨_, p, pJ hm d⟩
end
noncomputable def fP (i : Nat) (f2 f1 : DM DV) : DM Fl := (fN f2).bd fun a δ => if hZ i δ then ((fN f1).bd fun b δ => match a, res δ b, δ[i]? with
  | .val d, some (.int k), some (.ow ds) => (match ixN ds.length k with | some j => .ok .nx (δ.set i (.ow (ds.set j d))) | none => .un)
  | _, _, _ => .un) δ else .un
theorem nc (i : Nat) {x : Str} {e1 e2 : Expr} {f1 f2 : DM DV} {p p2 : Pos} (h2 : PED X E e2 f2) (h1 : PED X E e1 f1) (hN : X.N[i]? = some x := by rfl) (hv : Vis X.env.scope x := by first | exact Or.inl rfl | exact Or.inr (Or.inl rfl) | exact Or.inr (Or.inr rfl))
    (hd : (x == ("__debug__" : Str)) = false := by decide) (hcd : (x == ("__classdict__" : Str)) = false := by decide)
    (ha : ∀ v, assign (.Subscript (.Name x p) e1 p2) X.env v = (do
      let ov ← holding [v] (eval (.Name x p) X.env)
      let iv ← holding [v, ov] (eval e1 X.env)
      standAt p2
      holding [v, ov, iv] (setItem ov iv v)
      release [v, ov, iv] []) := by intro _; rfl)
    (hs : swapsWithSole [.Subscript (.Name x p) e1 p2] e2 pos.line X.env = pure false := by rfl) (hw : swappedStores [.Subscript (.Name x p) e1 p2] e2 X.env = pure none := by rfl)
    (hh : (assignEach [.Subscript (.Name x p) e1 p2] X.env).map (·.2) = [assign (.Subscript (.Name x p) e1 p2) X.env] := by rfl) :
    PSD X E mp (.Assign [.Subscript (.Name x p) e1 p2] e2 pos) (fP i f2 f1) := by
  obtain ⟨t2, q2, d2⟩ := h2
  obtain ⟨t1, q1, d1⟩ := h1
  refine ⟨_, vW q2 (xm (pv i hN hv hd hcd) q1 set_list ha) hs hw hh, ?_⟩
  intro σ H δ Ω R B h
  refine d2.use R h fun a y δ1 H1 Ω1 ex s1 R1 r1 w1 => ?_
  (try dsimp only at w1)
  split at w1
  · rename_i ho
    unfold hZ at ho
    split at ho
    · rename_i ds hds
      obtain ⟨ad, vs, e1, e2, e3, e4⟩ := R1.sl i _ hds
      refine ⟨.ref ad, join_some e1, d1.use R1 w1 fun b z δ2 H2 Ω2 ex2 s2 R2 r2 w2 => ?_⟩
      (try dsimp only at w2)
      split at w2
      · rename_i dd k es hb hds2
        split at w2
        · rename_i j hj
          obtain ⟨a', ws, u1, u2, u3, u4⟩ := R2.sl i _ hds2
          have ea : a' = ad := by
            have z := (join_some u1).symm.trans (join_some e1)
            injection z with z
            injection z with z
            injection z
          subst ea
          have rk : z = .int k := r2.res R2 hb
          subst rk
          have ry : Rep X.K H2 Ω2 dd y := Rep.ext ex2 r1
          refine ⟨a', ws, k, j, rfl, rfl, u2, by rw [← u4.length]; exact hj, ?_⟩
          exact w2 _ Ω2 (.putOw (k := i + 1) ⟨_, u2, rfl⟩ u3) σ (R2.putOw (join_some u1) ⟨_, u2, rfl⟩ u3 (au.set ry j u4)) fun _ _ => rfl
        · exact w2.elim
      · exact w2.elim
    · cases ho
  · exact w1.elim
noncomputable def xW (lo : Int) : List D → List D
  | [] => []
  | d :: ds => .tup [.int lo, d] :: xW (lo + 1) ds
theorem ng {i : Nat} {f1 f2 : DM DV} {δ δ1 δ2 : DSt} {a2 b2 : DV} {d : D} {es ds : List D} {k : Int} {j : Nat} (h : f2 δ = .ok a2 δ1) (e : norm a2 = .val d) (ho : δ1[i]? = some (.ow es)) (h1 : f1 δ1 = .ok b2 δ2) (e1 : res δ2 (norm b2) = some (.int k)) (e2 : δ2[i]? = some (.ow ds))
    (hj : ixN ds.length k = some j) : fP i f2 f1 δ = .ok .nx (δ2.set i (.ow (ds.set j d))) := by
  unfold fP fN DM.bd DM.ret
  simp only [h, e]
  have : hZ i δ1 = true := by unfold hZ; rw [ho]
  simp only [this, if_true, h1, e1, e2, hj]
end
end DL
namespace DL
open PySem PySem.Spec PyProof.Rows L2
inductive Rn where
  | un | ok (d : D) (mss : List (List D)) | own (ds : List D) (mss : List (List D))
noncomputable def eJ : DSt → List Nat → List (List D) → DSt
  | δ, i :: is, ms :: mss => eJ (δ.set i (.ow ms)) is mss
  | δ, _, _ => δ
noncomputable def cM (δ : DSt) : List Nat → Option (List (List D))
  | [] => some []
  | i :: is => match δ[i]?, cM δ is with
    | some (.ow ms), some r => some (ms :: r)
    | _, _ => none
theorem o7 : ∀ (is : List Nat) (δ : DSt) (mss : List (List D)), (eJ δ is mss).length = δ.length
  | [], _, _ => rfl
  | _ :: _, _, [] => rfl
  | i :: is, δ, ms :: mss => by
    show (eJ (δ.set i (.ow ms)) is mss).length = _
    rw [o7 is, List.length_set]
theorem nS : ∀ (is : List Nat) (δ : DSt) (mss : List (List D)) {j : Nat} {s : Sl}, mss.length = is.length → (eJ δ is mss)[j]? = some s →
    (∃ (k : Nat) (ms : List D), is[k]? = some j ∧ mss[k]? = some ms ∧ s = .ow ms) ∨ (j ∉ is ∧ δ[j]? = some s)
  | [], δ, mss, j, s, hl, h => by
    right
    cases mss with
    | nil => exact ⟨by simp, h⟩
    | cons _ _ => simp at hl
  | i :: is, δ, mss, j, s, hl, h => by
    cases mss with
    | nil => simp at hl
    | cons ms mss =>
      have h : (eJ (δ.set i (.ow ms)) is mss)[j]? = some s := h
      rcases nS is (δ.set i (.ow ms)) mss (by simpa using hl) h with ⟨k, m, e1, e2, e3⟩ | ⟨e1, e2⟩
      · exact .inl ⟨k + 1, m, by simpa using e1, by simpa using e2, e3⟩
      · by_cases hj : j = i
        · subst hj
          left
          have hlt : j < δ.length := by
            have := (List.getElem?_eq_some_iff.mp e2).1
            rwa [List.length_set] at this
          rw [List.getElem?_set_self hlt] at e2
          cases e2
          exact ⟨0, ms, rfl, rfl, rfl⟩
        · rw [List.getElem?_set_ne (Ne.symm hj)] at e2
          exact .inr ⟨fun z => (List.mem_cons.mp z).elim hj e1, e2⟩
section
variable {K : PySem.W.Frag} {E : Str → Hp → Prop} {H H' : Hp} {Ω Ω' : Om} {σ : St} {δ : DSt} {pr : Nat → Addr} {jf : Nat → Nat}
noncomputable def cE (K : PySem.W.Frag) (H : Hp) (Ω : Om) (pr : Nat → Addr) : List Nat → List (List D) → Prop
  | [], mss => mss = []
  | i :: is, mss => ∃ ms r, mss = ms :: r ∧ (∃ xs, H (pr i) = some (.lst xs) ∧ Ω (pr i) = some (i + 2) ∧ au K H Ω ms xs) ∧ cE K H Ω pr is r
theorem cE.len : ∀ {is : List Nat} {mss : List (List D)}, cE K H Ω pr is mss → mss.length = is.length
  | [], _, h => by rw [(show _ = [] from h)]; rfl
  | i :: is, _, h => by
    obtain ⟨ms, r, rfl, _, h2⟩ := h
    rw [List.length_cons, List.length_cons, cE.len h2]
theorem cE.at : ∀ {is : List Nat} {mss : List (List D)} {k i : Nat} {ms : List D}, cE K H Ω pr is mss → is[k]? = some i → mss[k]? = some ms → ∃ xs, H (pr i) = some (.lst xs) ∧ Ω (pr i) = some (i + 2) ∧ au K H Ω ms xs
  | [], _, _, _, _, _, e, _ => by simp at e
  | a :: is, _, 0, i, ms, h, e, e2 => by
    obtain ⟨m, r, rfl, h1, h2⟩ := h
    have : a = i := by simpa using e
    subst this
    have : m = ms := by simpa using e2
    subst this
    exact h1
  | a :: is, _, k + 1, i, ms, h, e, e2 => by
    obtain ⟨m, r, rfl, h1, h2⟩ := h
    exact cE.at (k := k) h2 (by simpa using e) (by simpa using e2)
theorem cE.mem {is : List Nat} {mss : List (List D)} {i : Nat} (h : cE K H Ω pr is mss) (hi : i ∈ is) : ∃ xs, H (pr i) = some (.lst xs) ∧ Ω (pr i) = some (i + 2) := by
  obtain ⟨k, hk, e⟩ := List.mem_iff_getElem.mp hi
  have hm : k < mss.length := by rw [h.len]; exact hk
  obtain ⟨xs, h1, h2, _⟩ := h.at (k := k) (i := i) (ms := mss[k]) (by rw [List.getElem?_eq_getElem hk, e]) (List.getElem?_eq_getElem hm)
  exact ⟨xs, h1, h2⟩
noncomputable def RnQ (K : PySem.W.Frag) (H : Hp) (Ω : Om) (pr : Nat → Addr) (is : List Nat) (Q : VK) : Rn → Prop
  | .un => False
  | .ok d mss => ∀ H' Ω', Ext H Ω H' Ω' → Trk H' Ω' → cE K H' Ω' pr is mss → ∀ v, Rep K H' Ω' d v → Q v H'
  | .own ds mss => ∀ H' Ω', Ext H Ω H' Ω' → Trk H' Ω' → cE K H' Ω' pr is mss → ∀ v, cA K H' Ω' [] (.own ds) v → Q v H'
noncomputable def qd (K : PySem.W.Frag) (H : Hp) (Ω : Om) (is : List Nat) (ds : List D) (vs : List V) : Prop := ds.length = vs.length ∧ ∀ j d, j ∉ is → ds[j]? = some d → ∃ v, vs[j]? = some v ∧ Rep K H Ω d v
noncomputable def spN (K : PySem.W.Frag) (n : Nat) (is : List Nat) (M : List D → List (List D) → Rn) : Sp := fun vs H Q _ => vs.length = n ∧ ∃ Ω ds pr mss, Trk H Ω ∧ (∀ i ∈ is, vs[i]? = some (.ref (pr i))) ∧ cE K H Ω pr is mss ∧ (∀ b k, Ω b = some k → k = 0 ∨ ∃ i ∈ is, b = pr i) ∧ qd K H Ω is ds vs ∧ RnQ K H Ω pr is Q (M ds mss)
noncomputable def fT (n : Nat) (is : List Nat) (ds : List D) (mss : List (List D)) : DSt := eJ (ds.map .sh ++ List.replicate (n - ds.length) .no) is mss
noncomputable def runN (body : DM Fl) (n : Nat) (is : List Nat) (ds : List D) (mss : List (List D)) : Rn := match body (fT n is ds mss) with
  | .ok (.rt d) δ' => (match cM δ' is with | some mss' => .ok d mss' | _ => .un)
  | .ok (.rto es) δ' => (match cM δ' is with | some mss' => .own es mss' | _ => .un)
  | .ok .nx δ' => (match cM δ' is with | some mss' => .ok .non mss' | _ => .un)
  | _ => .un
theorem ar.fT {N : List Str} {is : List Nat} {ds : List D} {mss : List (List D)} {vs : List V} (hr : qd K H Ω is ds vs) (ht : Trk H Ω) (hv : ∀ i ∈ is, vs[i]? = some (.ref (pr i))) (hm : cE K H Ω pr is mss) :
    ar K H Ω (L2.start N vs) (DL.fT N.length is ds mss) := by
  obtain ⟨hl, hr⟩ := hr
  have hget : ∀ j, j < vs.length → (L2.start N vs)[j]? = (vs[j]?).map some := fun j hj => by
    unfold L2.start
    rw [List.getElem?_append_left (by rw [List.length_map]; exact hj), List.getElem?_map]
  refine ⟨by unfold L2.start DL.fT; rw [o7, List.length_append, List.length_append, List.length_map, List.length_map, List.length_replicate, List.length_replicate, hl], fun j s h => ?_, ht⟩
  unfold DL.fT at h
  rcases nS is _ mss hm.len h with ⟨k, ms, e1, e2, rfl⟩ | ⟨e1, h⟩
  · have hj : j ∈ is := List.mem_of_getElem? e1
    have hv' := hv j hj
    obtain ⟨xs, h1, h2, h3⟩ := hm.at e1 e2
    have hjv : j < vs.length := (List.getElem?_eq_some_iff.mp hv').1
    exact ⟨pr j, xs, by rw [hget j hjv, hv']; rfl, h1, h2, h3⟩
  · by_cases hj : j < ds.length
    · rw [List.getElem?_append_left (by rw [List.length_map]; exact hj), List.getElem?_map] at h
      obtain ⟨d, hd⟩ : ∃ d, ds[j]? = some d := ⟨ds[j], List.getElem?_eq_getElem hj⟩
      rw [hd] at h
      cases h
      obtain ⟨v, hv', r⟩ := hr j d e1 hd
      exact ⟨v, by rw [hget j (by omega), hv']; rfl, r⟩
    · rw [List.getElem?_append_right (by rw [List.length_map]; omega), List.getElem?_replicate] at h
      split at h
      · cases h; trivial
      · cases h
theorem ar.lists {is : List Nat} {mss : List (List D)} (R : ar K H Ω σ δ) (hσ : ∀ i ∈ is, σ[i]? = some (some (.ref (pr i)))) (h : cM δ is = some mss) : cE K H Ω pr is mss := by
  induction is generalizing mss with
  | nil => cases h; rfl
  | cons i is ih =>
    unfold cM at h
    split at h
    · rename_i ms r e1 e2
      cases h
      obtain ⟨b, ys, q1, q2, q3, q4⟩ := R.sl i _ e1
      rw [hσ i List.mem_cons_self] at q1
      cases q1
      exact ⟨ms, r, rfl, ⟨ys, q2, q3, q4⟩, ih (fun j hj => hσ j (List.mem_cons_of_mem _ hj)) e2⟩
    · cases h
end
section
variable {P : Program} {w : World} {K : PySem.W.Frag} {mg : Str → Option Value} {base : Heap}
theorem fnN (is : List Nat) {x qual : Str} {st : Stmt} {f : Addr} {fd : FuncData} {N ps : List Str} {k : Nat} {body : DM Fl} (F : Fun K x qual st f fd) (S : br N ps (aH st))
    (hb : ∀ (cdv : Value) (A : Around) (outer : List Env) (s : Shared) (H : Hp) (E : XK), aU k (A.deeper (envOfC qual (aH st) s.heap.objs.size f cdv)) →
      dN (bJ CX0 P w K mg base N qual (aH st) f cdv A outer s H E).nox EN is (bo st) body) : aO P w K mg base CX0 (k + 1) f fd ps (spN K ps.length is (runN body N.length is)) := by
  refine F.ok S (fun vs H Q E h => h.1) (fun cdv A outer s H vs Q E hr h => ?_)
  obtain ⟨ts, p, d⟩ := hb cdv A outer s H E hr
  refine ⟨ts, p, ?_⟩
  obtain ⟨hl, Ω, ds, pr, mss, ht, hv, hm, h0, hr, hq⟩ := h
  have hs : ∀ i ∈ is, (L2.start N vs)[i]? = some (some (.ref (pr i))) := fun i hi => by
    have := hv i hi
    have hlt := (List.getElem?_eq_some_iff.mp this).1
    unfold L2.start
    rw [List.getElem?_append_left (by rw [List.length_map]; exact hlt), List.getElem?_map, this]; rfl
  refine d (L2.start N vs) H _ Ω (ar.fT hr ht hv hm) _ ?_
  unfold runN at hq
  have fin : ∀ {H' : Hp} {Ω' : Om} {σ' : St} {δ' : DSt} {mss' : List (List D)}, ar K H' Ω' σ' δ' → (∀ j ∈ is, σ'[j]? = (L2.start N vs)[j]?) → cM δ' is = some mss' → cE K H' Ω' pr is mss' :=
    fun R' m' e' => R'.lists (fun i hi => by rw [m' i hi]; exact hs i hi) e'
  cases e : body (DL.fT N.length is ds mss) with
  | un => rw [e] at hq; exact hq
  | er c => rw [e] at hq; exact hq.elim
  | ok fl δ' =>
    rw [e] at hq
    cases fl with
    | nx =>
      dsimp only at hq
      cases q : cM δ' is with
      | none => rw [q] at hq; exact hq.elim
      | some mss' =>
        rw [q] at hq
        exact fun H' Ω' ex σ' R' m' => hq H' Ω' ex R'.trk (fin R' m' q) .non rfl
    | bk => exact hq.elim
    | ct => exact hq.elim
    | rt d =>
      dsimp only at hq
      cases q : cM δ' is with
      | none => rw [q] at hq; exact hq.elim
      | some mss' =>
        rw [q] at hq
        exact fun H' Ω' ex σ' R' m' v rv => hq H' Ω' ex R'.trk (fin R' m' q) v rv
    | rto es =>
      dsimp only at hq
      cases q : cM δ' is with
      | none => rw [q] at hq; exact hq.elim
      | some mss' =>
        rw [q] at hq
        exact fun H' Ω' ex σ' R' m' v rv => hq H' Ω' ex R'.trk (fin R' m' q) v rv
end
noncomputable def slotsOf (as : List DV) : List Nat → Option (List Nat)
  | [] => some []
  | i :: is => match as[i]?, slotsOf as is with
    | some (.slot j), some r => some (j :: r)
    | _, _ => none
noncomputable def fk (is : List Nat) : Nat → List DV → Option (List D)
  | _, [] => some []
  | k, .val d :: r => (fk is (k + 1) r).map fun ds => d :: ds
  | k, _ :: r => if k ∈ is then (fk is (k + 1) r).map fun ds => .non :: ds else none
noncomputable def nu : Rn → DSt → List Nat → Rs DV
  | .un, _, _ => .un
  | .ok d mss, δ, js => .ok (.val d) (eJ δ js mss)
  | .own es mss, δ, js => .ok (.own es) (eJ δ js mss)
noncomputable def cJ (n : Nat) (is : List Nat) (fa : DM (List DV)) (M : List D → List (List D) → Rn) : DM DV := fa.bd fun as δ => match slotsOf as is with
  | some js => if js.Nodup then (match cM δ js, fk is 0 as with
    | some mss, some ds => if ds.length = n then nu (M ds mss) δ js else .un
    | _, _ => .un) else .un
  | none => .un
theorem o9 {as : List DV} : ∀ {is js : List Nat}, slotsOf as is = some js → ∀ k i : Nat, is[k]? = some i → ∃ j : Nat, js[k]? = some j ∧ as[i]? = some (DV.slot j)
  | [], _, _, _, _, e => by simp at e
  | a :: is, js, h, k, i, e => by
    unfold slotsOf at h
    split at h
    · rename_i j r e1 e2
      cases h
      cases k with
      | zero =>
        have : a = i := by simpa using e
        subst this
        exact ⟨j, rfl, e1⟩
      | succ k =>
        obtain ⟨j', z1, z2⟩ := o9 e2 k i (by simpa using e)
        exact ⟨j', by simpa using z1, z2⟩
    · cases h
theorem tL {as : List DV} : ∀ {is js : List Nat}, slotsOf as is = some js → js.length = is.length
  | [], _, h => by cases h; rfl
  | a :: is, js, h => by
    unfold slotsOf at h
    split at h
    · rename_i j r e1 e2
      cases h
      rw [List.length_cons, List.length_cons, tL e2]
    · cases h
theorem qq {δ : DSt} : ∀ {js : List Nat} {mss : List (List D)}, cM δ js = some mss → ∀ k j : Nat, js[k]? = some j → ∃ ms : List D, mss[k]? = some ms ∧ δ[j]? = some (Sl.ow ms)
  | [], _, _, _, _, e => by simp at e
  | a :: js, mss, h, k, j, e => by
    unfold cM at h
    split at h
    · rename_i ms r e1 e2
      cases h
      cases k with
      | zero =>
        have : a = j := by simpa using e
        subst this
        exact ⟨ms, rfl, e1⟩
      | succ k =>
        obtain ⟨m, z1, z2⟩ := qq e2 k j (by simpa using e)
        exact ⟨m, by simpa using z1, z2⟩
    · cases h
section
variable {K : PySem.W.Frag} {E : Str → Hp → Prop} {H H' : Hp} {Ω Ω' : Om} {σ : St} {δ : DSt} {pr : Nat → Addr} {jf : Nat → Nat} {is : List Nat}
theorem dk.get : ∀ {as : List DV} {vs : List V} {i : Nat} {a : DV}, dk K H Ω σ as vs → as[i]? = some a → ∃ v, vs[i]? = some v ∧ cA K H Ω σ a v
  | [], _, _, _, _, e => by simp at e
  | b :: r, _, 0, a, h, e => by
    obtain ⟨v, q, e1, e2, e3⟩ := h
    subst e1
    have : b = a := by simpa using e
    subst this
    exact ⟨v, rfl, e2⟩
  | _ :: r, _, i + 1, a, h, e => by
    obtain ⟨v, q, e1, e2, e3⟩ := h
    subst e1
    obtain ⟨w, q1, q2⟩ := dk.get (i := i) e3 (by simpa using e)
    exact ⟨w, by simpa using q1, q2⟩
theorem tu : ∀ {as : List DV} {vs : List V} {ds : List D} {k : Nat}, dk K H Ω σ as vs → fk is k as = some ds → ds.length = vs.length ∧ ∀ j d, k + j ∉ is → ds[j]? = some d → ∃ v, vs[j]? = some v ∧ Rep K H Ω d v
  | [], _, _, _, h, e => by
    cases e
    cases (show _ = [] from h)
    exact ⟨rfl, fun j d _ q => by simp at q⟩
  | a :: r, _, ds, k, h, e => by
    obtain ⟨v, q, e1, e2, e3⟩ := h
    subst e1
    have key : ∀ (d0 : D) (ds' : List D), fk is (k + 1) r = some ds' → ds = d0 :: ds' → (k ∉ is → Rep K H Ω d0 v) → ds.length = (v :: q).length ∧ ∀ j d, k + j ∉ is → ds[j]? = some d → ∃ v', (v :: q)[j]? = some v' ∧ Rep K H Ω d v' := by
      intro d0 ds' h1 h2 h3
      subst h2
      obtain ⟨l, f⟩ := tu e3 h1
      refine ⟨by rw [List.length_cons, List.length_cons, l], fun j d hj hd => ?_⟩
      cases j with
      | zero =>
        have : d0 = d := by simpa using hd
        subst this
        exact ⟨v, rfl, h3 (by simpa using hj)⟩
      | succ j =>
        obtain ⟨v', q1, q2⟩ := f j d (by rw [show k + 1 + j = k + (j + 1) by omega]; exact hj) (by simpa using hd)
        exact ⟨v', by simpa using q1, q2⟩
    cases a with
    | val d0 =>
      unfold fk at e
      obtain ⟨ds', h1, h2⟩ := Option.map_eq_some_iff.mp e
      exact key d0 ds' h1 h2.symm fun _ => e2
    | fld _ _ =>
      unfold fk at e
      split at e
      · rename_i hk
        obtain ⟨ds', h1, h2⟩ := Option.map_eq_some_iff.mp e
        exact key .non ds' h1 h2.symm fun z => absurd hk z
      · cases e
    | slot j =>
      unfold fk at e
      split at e
      · rename_i hk
        obtain ⟨ds', h1, h2⟩ := Option.map_eq_some_iff.mp e
        exact key .non ds' h1 h2.symm fun z => absurd hk z
      · cases e
    | own es =>
      unfold fk at e
      split at e
      · rename_i hk
        obtain ⟨ds', h1, h2⟩ := Option.map_eq_some_iff.mp e
        exact key .non ds' h1 h2.symm fun z => absurd hk z
      · cases e
noncomputable def fy (Ω : Om) (pr : Nat → Addr) (is : List Nat) : Om := fun b => match is.find? (fun i => decide (pr i = b)) with | some i => some (i + 2) | none => under Ω b
noncomputable def dy (Ω Ω' : Om) (pr : Nat → Addr) (jf : Nat → Nat) (is : List Nat) : Om := fun b => match is.find? (fun i => decide (pr i = b)) with | some i => some (jf i + 2) | none => back Ω Ω' b
noncomputable def Inj (pr : Nat → Addr) (is : List Nat) : Prop := ∀ i ∈ is, ∀ i' ∈ is, pr i = pr i' → i = i'
theorem rg (hi : Inj pr is) {i : Nat} (h : i ∈ is) : is.find? (fun j => decide (pr j = pr i)) = some i := by
  cases e : is.find? (fun j => decide (pr j = pr i)) with
  | none => exact absurd (decide_eq_true rfl) (List.find?_eq_none.mp e i h)
  | some j =>
    have h1 := List.mem_of_find?_eq_some e
    have h2 : pr j = pr i := by simpa using List.find?_some e
    rw [hi j h1 i h h2]
theorem tN {b : Addr} (h : ∀ i ∈ is, pr i ≠ b) : is.find? (fun i => decide (pr i = b)) = none := List.find?_eq_none.mpr fun i hi z => h i hi (of_decide_eq_true z)
theorem vY (hi : Inj pr is) {i : Nat} (h : i ∈ is) : fy Ω pr is (pr i) = some (i + 2) := by unfold fy; rw [rg hi h]
theorem ib {b : Addr} (h : ∀ i ∈ is, pr i ≠ b) : fy Ω pr is b = under Ω b := by unfold fy; rw [tN h]
theorem pM (hi : Inj pr is) {i : Nat} (h : i ∈ is) : dy Ω Ω' pr jf is (pr i) = some (jf i + 2) := by unfold dy; rw [rg hi h]
theorem jF {b : Addr} (h : ∀ i ∈ is, pr i ≠ b) : dy Ω Ω' pr jf is b = back Ω Ω' b := by unfold dy; rw [tN h]
theorem p5 (hp : ∀ i ∈ is, Ω (pr i) ≠ none) (b : Addr) (h : Ω b = none) : fy Ω pr is b = none := by
  rw [ib (fun i hi z => hp i hi (by rw [z]; exact h))]; exact eP h
theorem nr (hp : ∀ i ∈ is, Ω' (pr i) ≠ none) (b : Addr) (h : Ω' b = none) : dy Ω Ω' pr jf is b = none := by
  rw [jF (fun i hi z => hp i hi (by rw [z]; exact h))]; exact gU b h
theorem kE (b : Addr) : (∃ i ∈ is, pr i = b) ∨ ∀ i ∈ is, pr i ≠ b := by
  by_cases h : ∃ i ∈ is, pr i = b
  · exact .inl h
  · exact .inr fun i hi z => h ⟨i, hi, z⟩
theorem Ext.dy (hi : Inj pr is) (hp : ∀ i ∈ is, Ω (pr i) = some (jf i + 2) ∧ ∃ xs, H (pr i) = some (.lst xs)) (e : Ext H (fy Ω pr is) H' Ω') : Ext H Ω H' (DL.dy Ω Ω' pr jf is) where
  keep := fun b o q h => by
    rcases kE (pr := pr) (is := is) b with ⟨i, him, rfl⟩ | hb
    · obtain ⟨h1, xs, h2⟩ := hp i him
      rw [h2] at q
      cases q
      rcases h with h | h | h
      · cases h
      · rw [h1] at h; cases h
      · rw [h1] at h; cases h
    · refine e.keep b o q (h.imp_right fun z => ?_)
      rw [ib hb]
      exact z.imp eP fm
  new := fun b q h => by
    have hb : ∀ i ∈ is, pr i ≠ b := fun i him z => by have := (hp i him).1; rw [z, q] at this; cases this
    rw [jF hb]
    exact gU b (e.new b (by rw [ib hb]; exact eP q) h)
  fr := fun b => by
    rcases kE (pr := pr) (is := is) b with ⟨i, him, rfl⟩ | hb
    · rw [(hp i him).1, pM hi him]
    · rw [jF hb]
      constructor
      · intro h
        have := (e.fr b).mp (by rw [ib hb]; exact fm h)
        rw [jx this]
        exact h
      · intro h
        unfold DL.back at h
        split at h
        · exact h
        · cases h
        · cases h
  live := e.live
theorem ar.dy {mss mss' : List (List D)} (R : ar K H Ω σ δ) (hi : Inj pr is) (hp : ∀ i ∈ is, Ω (pr i) = some (jf i + 2) ∧ ∃ xs, H (pr i) = some (.lst xs)) (hσ : ∀ i ∈ is, σ[jf i]? = some (some (.ref (pr i)))) (e : Ext H (fy Ω pr is) H' Ω') (ht : Trk H' Ω')
    (hm : cE K H' Ω' pr is mss') : ar K H' (DL.dy Ω Ω' pr jf is) σ (eJ δ (is.map jf) mss') := by
  have ex := Ext.dy hi hp e
  have hn : ∀ i ∈ is, Ω' (pr i) ≠ none := fun i him => by obtain ⟨xs, _, h2⟩ := hm.mem him; rw [h2]; exact Option.some_ne_none _
  refine ⟨by rw [o7]; exact R.len, fun j s h => ?_, fun a k q => ?_⟩
  · rcases nS (is.map jf) δ mss' (by rw [List.length_map]; exact hm.len) h with ⟨k, ms, e1, e2, rfl⟩ | ⟨e1, h⟩
    · rw [List.getElem?_map] at e1
      obtain ⟨i, z1, rfl⟩ := Option.map_eq_some_iff.mp e1
      have him : i ∈ is := List.mem_of_getElem? z1
      obtain ⟨xs, h1, h2, h3⟩ := hm.at z1 e2
      exact ⟨pr i, xs, by rw [hσ i him]; rfl, h1, pM hi him, h3.less (nr hn)⟩
    · refine (R.sl j s h).mv (fun _ _ => .ext ex) (fun _ _ => .ext ex) fun a ws w3 w2 => ?_
      have ha : ∀ i ∈ is, pr i ≠ a := by
        rintro i him rfl
        rw [(hp i him).1] at w3
        exact e1 (List.mem_map.mpr ⟨i, him, by have := Option.some.inj w3; omega⟩)
      have h0 : fy Ω pr is a = some 0 := by rw [ib ha]; exact fm w3
      refine ⟨e.keep a _ w2 (.inr (.inr h0)), ?_⟩
      rw [jF ha, jx ((e.fr a).mp h0)]
      exact w3
  · rcases kE (pr := pr) (is := is) a with ⟨i, him, rfl⟩ | ha
    · obtain ⟨xs, h1, _⟩ := hm.mem him; exact ⟨_, h1, rfl⟩
    · rw [jF ha] at q
      unfold DL.back at q
      split at q
      · rename_i z; exact ht a _ z
      · rename_i z; exact ht a _ z
      · cases q
theorem map_inj {f : Nat → Nat} : ∀ {l : List Nat}, (l.map f).Nodup → ∀ a ∈ l, ∀ b ∈ l, f a = f b → a = b
  | [], _, a, ha, _, _, _ => nomatch ha
  | x :: l, h, a, ha, b, hb, e => by
    rw [List.map_cons, List.nodup_cons] at h
    rcases List.mem_cons.mp ha with z | ha' <;> rcases List.mem_cons.mp hb with z' | hb'
    · rw [z, z']
    · subst z; exact absurd (List.mem_map.mpr ⟨b, hb', e.symm⟩) h.1
    · subst z'; exact absurd (List.mem_map.mpr ⟨a, ha', e⟩) h.1
    · exact map_inj h.2 a ha' b hb' e
noncomputable def jOf (as : List DV) (i : Nat) : Nat := match as[i]? with | some (.slot j) => j | _ => 0
noncomputable def aOf (σ : St) (as : List DV) (i : Nat) : Addr := match σ[jOf as i]? with | some (some (.ref p)) => p | _ => 0
theorem vx {as : List DV} {is js : List Nat} (h : slotsOf as is = some js) : js = is.map (jOf as) := by
  apply List.ext_getElem?
  intro k
  rw [List.getElem?_map]
  cases e : is[k]? with
  | none =>
    rw [List.getElem?_eq_none_iff] at e
    rw [List.getElem?_eq_none (by rw [tL h]; exact e)]; rfl
  | some i =>
    obtain ⟨j, z1, z2⟩ := o9 h k i e
    rw [z1]
    show some j = some (jOf as i)
    unfold jOf
    rw [z2]
theorem rK {pr : Nat → Addr} {as : List DV} : ∀ {is : List Nat} {mss : List (List D)}, cM δ (is.map (jOf as)) = some mss → (∀ i ∈ is, ∀ ms, δ[jOf as i]? = some (.ow ms) → ∃ xs, H (pr i) = some (.lst xs) ∧ Ω (pr i) = some (i + 2) ∧ au K H Ω ms xs) → cE K H Ω pr is mss
  | [], _, h, _ => by cases h; rfl
  | i :: is, mss, h, f => by
    rw [List.map_cons] at h
    unfold cM at h
    split at h
    · rename_i ms r e1 e2
      cases h
      exact ⟨ms, r, rfl, f i List.mem_cons_self ms e1, rK e2 fun i' hi' => f i' (List.mem_cons_of_mem _ hi')⟩
    · cases h
theorem zA {n : Nat} {M : List D → List (List D) → Rn} {Ex : XK} {t : TA} {fa : DM (List DV)} (ha : DA K E t fa) : DE K E (ji (spN K n is M) [] Ex t) (cJ n is fa M) := by
  intro σ H δ Ω R Q h
  refine ha.use R h fun as vs δ1 H1 Ω1 _ s1 R1 r1 h1 => ?_
  (try dsimp only at h1)
  split at h1
  · rename_i js hjs
    split at h1
    · rename_i hnd
      split at h1
      · rename_i mss ds hms hds
        split at h1
        · rename_i hn
          have hje := vx hjs
          subst hje
          obtain ⟨hl, hrep⟩ := tu r1 hds
          have all : ∀ i ∈ is, as[i]? = some (.slot (jOf as i)) ∧ ∃ ms xs, δ1[jOf as i]? = some (.ow ms) ∧ σ[jOf as i]? = some (some (.ref (aOf σ as i))) ∧ H1 (aOf σ as i) = some (.lst xs) ∧ Ω1 (aOf σ as i) = some (jOf as i + 2) ∧ au K H1 Ω1 ms xs := by
            intro i hi
            obtain ⟨k, hk, e⟩ := List.mem_iff_getElem.mp hi
            obtain ⟨j, z1, z2⟩ := o9 hjs k i (by rw [List.getElem?_eq_getElem hk, e])
            have hj : jOf as i = j := by unfold jOf; rw [z2]
            obtain ⟨ms, z3, z4⟩ := qq hms k j z1
            obtain ⟨p, xs, q1, q2, q3, q4⟩ := R1.sl j _ z4
            have q1 := join_some q1
            have hp : aOf σ as i = p := by unfold aOf; rw [hj, q1]
            rw [hj, hp]
            exact ⟨z2, ms, xs, z4, q1, q2, q3, q4⟩
          have hinj : Inj (aOf σ as) is := fun i hi i' hi' e => by
            obtain ⟨_, _, _, _, _, _, o1, _⟩ := all i hi
            obtain ⟨_, _, _, _, _, _, o2, _⟩ := all i' hi'
            rw [e, o2] at o1
            exact (map_inj hnd i' hi' i hi (by have := Option.some.inj o1; omega)).symm
          have hp : ∀ i ∈ is, Ω1 (aOf σ as i) = some (jOf as i + 2) ∧ ∃ xs, H1 (aOf σ as i) = some (.lst xs) := fun i hi => by
            obtain ⟨_, _, xs, _, _, o1, o2, _⟩ := all i hi
            exact ⟨o2, xs, o1⟩
          have hσ : ∀ i ∈ is, σ[jOf as i]? = some (some (.ref (aOf σ as i))) := fun i hi => by
            obtain ⟨_, _, _, _, o1, _⟩ := all i hi
            exact o1
          have hnn : ∀ i ∈ is, Ω1 (aOf σ as i) ≠ none := fun i hi => by rw [(hp i hi).1]; exact Option.some_ne_none _
          show spN K n is M (vs ++ []) H1 Q Ex
          rw [List.append_nil]
          refine ⟨by rw [← hl]; exact hn, fy Ω1 (aOf σ as) is, ds, aOf σ as, mss, fun b k q => ?_, fun i hi => ?_, ?_, fun b k q => ?_, ⟨hl, fun k d hk hd => ?_⟩, ?_⟩
          · rcases kE (pr := aOf σ as) (is := is) b with ⟨i, hi, rfl⟩ | hb
            · obtain ⟨xs, q2⟩ := (hp i hi).2; exact ⟨_, q2, rfl⟩
            · rw [ib hb] at q; exact kR R1.trk b k q
          · obtain ⟨o1, _⟩ := all i hi
            obtain ⟨v, hv, rv⟩ := r1.get o1
            have rv : σ[jOf as i]? = some (some v) := rv
            rw [hσ i hi] at rv
            cases rv
            exact hv
          · refine rK hms fun i hi ms hms' => ?_
            obtain ⟨_, ms2, xs, o1, _, o2, o3, o4⟩ := all i hi
            rw [hms'] at o1
            cases o1
            exact ⟨xs, o2, vY hinj hi, o4.less (p5 hnn)⟩
          · rcases kE (pr := aOf σ as) (is := is) b with ⟨i, hi, rfl⟩ | hb
            · exact .inr ⟨i, hi, rfl⟩
            · rw [ib hb] at q; exact .inl (oQ b k q)
          · obtain ⟨v', z1, z2⟩ := hrep k d (by rw [Nat.zero_add]; exact hk) hd
            exact ⟨v', z1, z2.less (p5 hnn)⟩
          · have fin : ∀ {H' : Hp} {Ω' : Om} {mss' : List (List D)}, Ext H1 (fy Ω1 (aOf σ as) is) H' Ω' → Trk H' Ω' → cE K H' Ω' (aOf σ as) is mss' → ar K H' (DL.dy Ω1 Ω' (aOf σ as) (jOf as) is) σ (eJ δ1 (is.map (jOf as)) mss') := fun e' t' z => ar.dy (mss := mss) R1 hinj hp hσ e' t' z
            have hn' : ∀ {H' : Hp} {Ω' : Om} {mss' : List (List D)}, cE K H' Ω' (aOf σ as) is mss' → ∀ i ∈ is, Ω' (aOf σ as i) ≠ none := fun z i hi => by obtain ⟨_, _, h2⟩ := z.mem hi; rw [h2]; exact Option.some_ne_none _
            cases q5 : M ds mss with
            | un => rw [q5] at h1; exact h1
            | ok d mss' =>
              rw [q5] at h1
              exact fun H' Ω' e' t' z v rv => h1 H' _ (Ext.dy hinj hp e') (fin e' t' z) v (rv.less (nr (hn' z)))
            | own es mss' =>
              rw [q5] at h1
              intro H' Ω' e' t' z v ⟨a, ws, w1, w2, w3, w4⟩
              have hap : ∀ i ∈ is, aOf σ as i ≠ a := by
                rintro i hi rfl
                obtain ⟨_, _, h2⟩ := z.mem hi
                rw [h2] at w3
                cases w3
              exact h1 H' _ (Ext.dy hinj hp e') (fin e' t' z) v ⟨a, ws, w1, w2, by rw [jF hap]; exact jX w3, w4.less (nr (hn' z))⟩
        · exact h1.elim
      · exact h1.elim
    · exact h1.elim
  · exact h1.elim
end
section
variable {X : Cx} {E : Str → Hp → Prop} {pos : Pos} {e : Expr}
structure iq (P : Program) (w : World) (K : PySem.W.Frag) (mg : Str → Option Value) (base : Heap) (k : Nat) (x : Str) (n : Nat) (is : List Nat) (M : List D → List (List D) → Rn) : Prop where
  ex : ∃ (f : Addr) (fd : FuncData) (ps : List Str), aO P w K mg base CX0 k f fd ps (spN K n is M) ∧ mg x = some (.ref f) ∧ PySem.W.keepIn K (.ref f) = true ∧ Binds K fd ps []
theorem mF {k n : Nat} {is : List Nat} {x : Str} {M : List D → List (List D) → Rn} {p : Pos} {es : List Expr} {r : DM (List DV)} (F : iq X.prog X.w X.K X.mg X.base k x n is M) (hr : aU k X.A) (ha : PAD X EN (e :: es) r) (hg : Gl X x := by rfl)
    (hdb : (x == ("__debug__" : Str)) = false := by decide) (he : starEach (e :: es) X.env = (false, eval e X.env) :: starEach es X.env := by rfl) (hpl : (backTo pos (starEach es X.env)).any (·.1) = false := by rfl) :
    PED X EN (.Call (.Name x p) (e :: es) [] pos) (cJ n is r M) := by
  obtain ⟨fa, fd, ps, F, hm, kp, b⟩ := F.ex
  obtain ⟨t, q, d⟩ := ha
  exact ⟨_, lO F hr hg hm kp b .nil gz q hdb he hpl, zA d⟩
end
section
variable {δ δ1 : DSt} {d : D} {ds es : List D} {mss mss' : List (List D)} {is js : List Nat} {n : Nat} {as : List DV} {fa : DM (List DV)} {body : DM Fl}
theorem gO (h : body (fT n is ds mss) = .ok (.rt d) δ1) (e : cM δ1 is = some mss') : runN body n is ds mss = .ok d mss' := by unfold runN; simp only [h, e]
theorem mW (h : body (fT n is ds mss) = .ok .nx δ1) (e : cM δ1 is = some mss') : runN body n is ds mss = .ok .non mss' := by unfold runN; simp only [h, e]
theorem jn : nu (.ok d mss) δ js = .ok (.val d) (eJ δ js mss) := rfl
theorem iS {M : List D → List (List D) → Rn} {rn : Rn} {Z : Rs DV} (h : fa δ = .ok as δ1) (e : slotsOf as is = some js) (hn : js.Nodup) (e2 : cM δ1 js = some mss) (e3 : fk is 0 as = some ds) (hl : ds.length = n) (hM : M ds mss = rn) (hr : nu rn δ1 js = Z) : cJ n is fa M δ = Z := by
  unfold cJ DM.bd
  simp only [h, e, hn, e2, e3, hl, if_true, hM]
  exact hr
end
end DL
namespace L2
open PySem PySem.Spec PyProof.Rows
section
variable {κ : Type} [DecidableEq κ]
noncomputable def dD (kvs : List (κ × V)) (k : κ) : Option V := (kvs.find? fun kv => decide (kv.1 = k)).map (·.2)
noncomputable def putK (kvs : List (κ × V)) (k : κ) (v : V) : List (κ × V) :=
  if (kvs.any fun kv => decide (kv.1 = k)) = true then kvs.map (fun kv => if kv.1 = k then (kv.1, v) else kv) else kvs ++ [(k, v)]
theorem lU {p : κ × V} {r : List (κ × V)} {k : κ} (e : p.1 = k) : dD (p :: r) k = some p.2 := by simp [dD, List.find?_cons, e]
theorem ma {p : κ × V} {r : List (κ × V)} {k : κ} (e : ¬ p.1 = k) : dD (p :: r) k = dD r k := by simp [dD, List.find?_cons, e]
theorem qj (k : κ) : ∀ kvs : List (κ × V), (kvs.any fun kv => decide (kv.1 = k)) = (dD kvs k).isSome
  | [] => rfl
  | p :: r => by
    rw [List.any_cons]
    by_cases e : p.1 = k
    · simp only [lU e, decide_eq_true e, Bool.true_or, Option.isSome_some]
    · rw [ma e, decide_eq_false e, Bool.false_or]; exact qj k r
theorem qT (kvs : List (κ × V)) (k : κ) (v : V) : (putK kvs k v).length ≤ kvs.length + 1 := by
  unfold putK
  split
  · rw [List.length_map]; omega
  · rw [List.length_append, List.length_cons, List.length_nil]; omega
theorem df.isSome_eq {o : Option V} {u : Option Value} (r : df o u) : o.isSome = u.isSome := by
  cases o with
  | none => cases u with
    | none => rfl
    | some _ => exact (show False from r).elim
  | some _ => cases u with
    | none => exact (show False from r).elim
    | some _ => rfl
theorem df.getD {o : Option V} {u : Option Value} {d : V} {d' : Value} (r : df o u) (rd : RelV d d') : RelV (o.getD d) (u.getD d') := by
  cases o with
  | none => cases u with
    | none => exact rd
    | some _ => exact (show False from r).elim
  | some _ => cases u with
    | none => exact (show False from r).elim
    | some _ => exact r
theorem KV.val {kvs : List (κ × V)} {vs : List (κ × Value)} (r : KV kvs vs) (k : κ) : df (dD kvs k) (valueAt vs k) := by
  unfold KV at r
  induction r with
  | nil => exact True.intro
  | @cons p q ps qs h t ih =>
    obtain ⟨h1, h2⟩ := h
    by_cases e : p.1 = k
    · have e' : q.1 = k := h1.symm.trans e
      have b : valueAt (q :: qs) k = some q.2 := by simp [valueAt, List.find?_cons, e']
      rw [lU e, b]; exact h2
    · have e' : ¬ q.1 = k := fun z => e (h1.trans z)
      have b : valueAt (q :: qs) k = valueAt qs k := by simp [valueAt, List.find?_cons, e']
      rw [ma e, b]; exact ih
theorem KV.any {kvs : List (κ × V)} {vs : List (κ × Value)} (r : KV kvs vs) (k : κ) : (kvs.any fun kv => decide (kv.1 = k)) = vs.any fun kv => decide (kv.1 = k) := by
  unfold KV at r
  induction r with
  | nil => rfl
  | cons h t ih => rw [List.any_cons, List.any_cons, ih, h.1]
theorem KV.repl {kvs : List (κ × V)} {vs : List (κ × Value)} (r : KV kvs vs) (k : κ) {y : V} {u : Value} (ry : RelV y u) :
    KV (kvs.map fun kv => if kv.1 = k then (kv.1, y) else kv) (vs.map fun kv => if kv.1 = k then (kv.1, u) else kv) := by
  unfold KV at r ⊢
  induction r with
  | nil => exact .nil
  | @cons p q ps qs h t ih =>
    rw [List.map_cons, List.map_cons]
    refine .cons ?_ ih
    obtain ⟨h1, h2⟩ := h
    by_cases e : p.1 = k
    · rw [if_pos e, if_pos (h1.symm.trans e)]; exact ⟨h1, ry⟩
    · rw [if_neg e, if_neg (fun z => e (h1.trans z))]; exact ⟨h1, h2⟩
theorem KV.put {kvs : List (κ × V)} {vs : List (κ × Value)} (r : KV kvs vs) (k : κ) {y : V} {u : Value} (ry : RelV y u) : KV (putK kvs k y) (stored vs k u) := by
  unfold putK stored
  rw [r.any k]
  by_cases e : (vs.any fun kv => decide (kv.1 = k)) = true
  · rw [if_pos e, if_pos e]; exact r.repl k ry
  · rw [if_neg e, if_neg e]; exact Paired.snoc r ⟨rfl, ry⟩
theorem KV.length {kvs : List (κ × V)} {vs : List (κ × Value)} (r : KV kvs vs) : kvs.length = vs.length := Paired.length r
end
theorem oK {P : Program} {w : World} {k : Key} {u : Value} (r : RelV (kV k) u) : (di P w).is k u = true := by
  cases k with
  | inl i => obtain ⟨t, e⟩ := (show ∃ t, u = Value.int i t from r); subst e; exact vB P w i t
  | inr x => obtain ⟨t, e⟩ := (show ∃ t, u = Value.str x t from r); subst e; exact uZ P w x t
theorem qW {P : Program} {w : World} : ∀ {ks : List Key} {us : List Value}, Vals (ks.map kV) us → ItemsAre (di P w) ks us
  | [], _, r => by rw [List.map_nil] at r; cases r; exact .nil
  | k :: ks, _, r => by
    rw [List.map_cons] at r
    cases r with
    | cons h t => exact .cons (oK h) (qW t)
noncomputable abbrev KT (H : Hp) : List (List Key × V) → List (List Key × Addr × Value) → Prop := Paired fun p q => p.1 = q.1 ∧ H q.2.1 = some (.tup (p.1.map kV)) ∧ RelV p.2 q.2.2
theorem KT.val {H : Hp} {kvs : List (List Key × V)} {xs : List (List Key × Addr × Value)} (r : KT H kvs xs) (k : List Key) : df (dD kvs k) ((atKey xs k).map (·.2)) := by
  induction r with
  | nil => exact True.intro
  | @cons p q ps qs h t ih =>
    obtain ⟨h1, _, h2⟩ := h
    by_cases e : p.1 = k
    · have e' : q.1 = k := h1.symm.trans e
      have b : atKey (q :: qs) k = some q.2 := by simp [atKey, List.find?_cons, e']
      rw [lU e, b]; exact h2
    · have e' : ¬ q.1 = k := fun z => e (h1.trans z)
      have b : atKey (q :: qs) k = atKey qs k := by simp [atKey, List.find?_cons, e']
      rw [ma e, b]; exact ih
theorem KT.repl {H : Hp} {kvs : List (List Key × V)} {xs : List (List Key × Addr × Value)} (r : KT H kvs xs) (k : List Key) {y : V} {u : Value} (ry : RelV y u) :
    KT H (kvs.map fun kv => if kv.1 = k then (kv.1, y) else kv) (xs.map (putAt k u)) := by
  induction r with
  | nil => exact .nil
  | @cons p q ps qs h t ih =>
    rw [List.map_cons, List.map_cons]
    refine .cons ?_ ih
    obtain ⟨h1, h2, h3⟩ := h
    unfold putAt
    by_cases e : p.1 = k
    · rw [if_pos e, if_pos (h1.symm.trans e)]; exact ⟨h1, h2, ry⟩
    · rw [if_neg e, if_neg (fun z => e (h1.trans z))]; exact ⟨h1, h2, h3⟩
theorem KT.put {H : Hp} {kvs : List (List Key × V)} {xs : List (List Key × Addr × Value)} (r : KT H kvs xs) (k : List Key) {b : Addr} {y : V} {u : Value} (hb : H b = some (.tup (k.map kV))) (ry : RelV y u) :
    KT H (putK kvs k y) (storedH xs k b u) := by
  have e : (kvs.any fun kv => decide (kv.1 = k)) = (atKey xs k).isSome := by
    rw [qj, (r.val k).isSome_eq, Option.isSome_map]
  unfold putK storedH
  rw [e]
  by_cases q : (atKey xs k).isSome = true
  · rw [if_pos q, if_pos q]; exact r.repl k ry
  · rw [if_neg q, if_neg q]; exact Paired.snoc r ⟨rfl, hb, ry⟩
theorem KT.keeps {H H' : Hp} {kvs : List (List Key × V)} {xs : List (List Key × Addr × Value)} (r : KT H kvs xs) (ht : ∀ b ys, H b = some (.tup ys) → H' b = some (.tup ys)) : KT H' kvs xs :=
  Paired.mapP r fun _ _ z => ⟨z.1, ht _ _ z.2.1, z.2.2⟩
section
variable {P : Program} {w : World} {H : Hp} {h : Heap} {a : Addr}
theorem pG {u : HO} (ok : HOk P w H h) (e : Rd H a u) : bL P w H h a u := e.ok ok
theorem pq {kvs : List (Key × V)} (ok : HOk P w H h) (e : Rd H a (.dK kvs)) : kvs.length ≤ sizeLine ∧ (a == sysModules) = false ∧ ∃ vs, KV kvs vs ∧ h.DictOf (di P w) a vs :=
  show bL P w H h a (.dK kvs) from pG ok e
theorem xh {kvs : List (Key × V)} (ok : HOk P w H h) (e : H a = some (.dK kvs)) : kvs.length ≤ sizeLine ∧ (a == sysModules) = false ∧ ∃ vs, KV kvs vs ∧ h.DictOf (di P w) a vs := pq ok (.inl e)
theorem pd {ks : List Key} (ok : HOk P w H h) (e : H a = some (.tup (ks.map kV))) : (tupleKind (di P w)).is h ks a := by
  obtain ⟨_, its, r, o, h1, h2, n, h3⟩ := (show bL P w H h a (.tup (ks.map kV)) from ok a _ e)
  exact ⟨o, its.toArray, n, h1, h2, h3, by simpa using qW r⟩
theorem nF {kvs : List (List Key × V)} (ok : HOk P w H h) (e : Rd H a (.dT kvs)) : kvs.length ≤ sizeLine ∧ (a == sysModules) = false ∧
    ∃ xs, KT H kvs xs ∧ h.DictOfH (tupleKind (di P w)) a xs := by
  obtain ⟨z, y, xs, r, o, es, ep, h1, h2, h3, h4, h5⟩ := (show bL P w H h a (.dT kvs) from pG ok e)
  refine ⟨z, y, xs, r, o, es, ep, h1, h2, h3, h4, fun x hx => ?_, h5⟩
  have all : ∀ {l : List (List Key × V)} {m : List (List Key × Addr × Value)}, KT H l m → ∀ x ∈ m, (tupleKind (di P w)).is h x.1 x.2.1 := by
    intro l m q
    induction q with
    | nil => intro x hx; exact nomatch hx
    | @cons p q ps qs hq t ih =>
      intro x hx
      rcases List.mem_cons.mp hx with e | hx
      · subst e
        exact pd ok (by rw [← hq.1]; exact hq.2.1)
      · exact ih x hx
  exact all r x hx
theorem Ao {kvs : List (List Key × V)} (ok : HOk P w H h) (e : H a = some (.dT kvs)) : kvs.length ≤ sizeLine ∧ (a == sysModules) = false ∧
    ∃ xs, KT H kvs xs ∧ h.DictOfH (tupleKind (di P w)) a xs := nF ok (.inl e)
end
noncomputable def hV (H : Hp) (a : Addr) (y : V) (r : Option V) : Prop :=
  (∃ kvs k, Rd H a (.dK kvs) ∧ y = kV k ∧ r = dD kvs k) ∨ ∃ kvs k b, Rd H a (.dT kvs) ∧ y = .ref b ∧ H b = some (.tup (k.map kV)) ∧ r = dD kvs k
noncomputable def ir (H : Hp) (a : Addr) (y v : V) (H' : Hp) : Prop :=
  (∃ kvs k, H a = some (.dK kvs) ∧ y = kV k ∧ kvs.length < sizeLine ∧ H' = upd H a (.dK (putK kvs k v))) ∨
  ∃ kvs k b, H a = some (.dT kvs) ∧ y = .ref b ∧ H b = some (.tup (k.map kV)) ∧ kvs.length < sizeLine ∧ H' = upd H a (.dT (putK kvs k v))
theorem hV.k {H : Hp} {a : Addr} {kvs : List (Key × V)} {k : Key} (e : H a = some (.dK kvs)) : hV H a (kV k) (dD kvs k) := .inl ⟨kvs, k, .inl e, rfl, rfl⟩
theorem hV.t {H : Hp} {a b : Addr} {kvs : List (List Key × V)} {k : List Key} (e : H a = some (.dT kvs)) (eb : H b = some (.tup (k.map kV))) : hV H a (.ref b) (dD kvs k) := .inr ⟨kvs, k, b, .inl e, rfl, eb, rfl⟩
theorem ir.k {H : Hp} {a : Addr} {kvs : List (Key × V)} {k : Key} {v : V} (e : H a = some (.dK kvs)) (hl : kvs.length < sizeLine) : ir H a (kV k) v (upd H a (.dK (putK kvs k v))) := .inl ⟨kvs, k, e, rfl, hl, rfl⟩
theorem ir.t {H : Hp} {a b : Addr} {kvs : List (List Key × V)} {k : List Key} {v : V} (e : H a = some (.dT kvs)) (eb : H b = some (.tup (k.map kV))) (hl : kvs.length < sizeLine) :
    ir H a (.ref b) v (upd H a (.dT (putK kvs k v))) := .inr ⟨kvs, k, b, e, rfl, eb, hl, rfl⟩
section
variable {X : Cx} {pins : List (Addr × Obj)} {σ : St} {H : Hp} {s : Shared} {a : Addr} {y v : V} {u r : Value} {o : Option V} {A : Around} {E : Value → Shared → Prop}
theorem Inv.big (I : Inv X pins σ H s) : sysModules < s.heap.objs.size := by
  have h : mainGlobals < s.heap.objs.size := (I.mod.glob.keeps I.bk).lt
  exact Nat.lt_trans (by decide) h
theorem tS {h' : Heap} {t' : Nat} {ob : HO} (I : Inv X pins σ H s) (mu : Mut (H a)) (hs : Heap.SameBut a s.heap h') (he : ∃ q, h'.get? a = some q) (new : bL X.prog X.w (upd H a ob) h' a ob) :
    Inv X pins σ (upd H a ob) { s with heap := h', toks := t' } :=
  I.write (x := a) (e := a) mu (.inl rfl) (fun b q hb z => (hs.2 b hb).trans z) he new
theorem zC {P : Program} {w : World} {H' : Hp} {h' : Heap} {kvs : List (Key × V)} {vs : List (Key × Value)} (z : kvs.length ≤ sizeLine) (hd : (a == sysModules) = false) (rel : KV kvs vs) (dd : h'.DictOf (di P w) a vs) :
    bL P w H' h' a (.dK kvs) := ⟨z, hd, vs, rel, dd⟩
theorem Ah {H' : Hp} {Q : Unit → Shared → Prop} (hu : A.units + 1 < cLine) (I : Inv X pins σ H s) (g : ir H a y v H') (ry : RelV y u) (rv : RelV v r) (h : ∀ s', Inv X pins σ H' s' → Q () s') :
    wpAny (model X.prog X.w) A (setItem (.ref a) u r) Q E s := by
  rcases g with ⟨kvs, k, e, ey, l, eH⟩ | ⟨kvs, k, b, e, ey, eb, l, eH⟩
  · subst ey eH
    obtain ⟨z, hd, vs, rel, dd⟩ := xh I.hok e
    have hz : vs.length ≤ sizeLine := by rw [← rel.length]; exact z
    have hl : (putK kvs k v).length ≤ sizeLine := by have := qT kvs k v; omega
    refine wpAny_setItem_pairs (hsz := hz) (oK ry) dd fun h' dd' hs => h _ ?_
    have he : ∃ q, h'.get? a = some q := let ⟨q, _, _, hq, _⟩ := dd'; ⟨q, hq⟩
    exact tS I (by rw [e]; exact True.intro) hs he (zC hl hd (rel.put k rv) dd')
  · subst ey eH
    cases (show u = Value.ref b from ry)
    obtain ⟨z, hd, xs, rel, dd⟩ := Ao I.hok e
    have hz : xs.length ≤ sizeLine := by rw [← Paired.length rel]; exact z
    have hl : (putK kvs k v).length ≤ sizeLine := by have := qT kvs k v; omega
    refine wpAny_setItem_heap (hsz := hz) (tupleKind_room_in1 hu) (pd I.hok eb) dd fun h' dd' hs => h _ ?_
    obtain ⟨q, es, ep, hq, h2, h3, h4, _, h5⟩ := dd'
    refine tS I (by rw [e]; exact True.intro) hs ⟨q, hq⟩ ⟨hl, hd, _, (rel.put k eb rv).keeps fun c ys ec => ?_, q, es, ep, hq, h2, h3, h4, h5⟩
    rw [aD (Aq ec e (fun z => nomatch z))]
    exact ec
end
section
variable {X : Cx} {pins : List (Addr × Obj)} {σ : St} {H : Hp} {s : Shared} {a : Addr} {kvs : List (Key × V)} {k : Key} {u : Value} {A : Around} {E : Value → Shared → Prop}
end
noncomputable def v8 (td ty tv : TE) : TS := fun D σ H => tv σ H fun v H1 => td σ H1 fun x H2 => ty σ H2 fun y H3 => ∃ a H4, x = .ref a ∧ ir H3 a y v H4 ∧ D.nx σ H4
section
variable {X : Cx} {o i e value : Expr} {pos pos' tpos : Pos} {td ty tv : TE}
theorem vz (hu : X.A.units + 1 < cLine) (ho : PE X o td) (hi : PE X i ty) (hv : PE X value tv) (hs : swapsWith value (some (.Subscript o i pos')) pos.line X.env = pure false) :
    PS X (.Assign [.Subscript o i pos'] value pos) (v8 td ty tv) := by
  intro pins s σ H D I h
  refine wpAny_Assign_Subscript (thn (hv pins s σ H _ I h) fun r s1 ⟨v, H1, I1, rv, q1⟩ => thn (ho pins s1 σ H1 _ I1 q1) fun u s2 ⟨x, H2, I2, rx, q2⟩ => thn (hi pins s2 σ H2 _ I2 q2) fun iv s3 ⟨y, H3, I3, ry, a, H4, ex, g, q3⟩ => ?_) hs
  subst ex
  obtain rfl : u = Value.ref a := rx
  exact Ah hu I3 g ry rv fun s4 I4 => ⟨σ, H4, I4, q3⟩
end
theorem vA {P : Program} {w : World} {H : Hp} (h : Heap) (hb : sysModules < h.objs.size) : bL P w H (h.push { cls := .type "dict", data := .dict #[] }) h.objs.size (.dT []) :=
  ⟨Nat.zero_le _, beq_eq_false_iff_ne.mpr (Ne.symm (Nat.ne_of_lt hb)), [], .nil, _, #[], 0, Heap.get?_push_size _ rfl, ⟨rfl, rfl, rfl⟩, rfl, rfl, List.nodup_nil⟩
noncomputable def pX : TE := fun _ H Q => ∀ p, H p = none → Q (.ref p) (upd H p (.dT []))
section
variable {X : Cx} {pos : Pos}
theorem wL : PE X (.Dict [] [] pos) pX := fun pins s σ H Q I h =>
  wpAny_Dict_empty ⟨.ref s.heap.objs.size, _, I.laid (a := s.heap.objs.size) (o := .dT []) (t' := s.toks) (fun _ _ q => Heap.get?_push_of_some _ q) (Nat.le_refl _) (vA s.heap I.big), rfl, h _ (I.hok.fresh (Nat.le_refl _))⟩
end
structure M1 (X : Cx) (o : Expr) (m : Str) (apos : Pos) (e : Expr) (cpos : Pos) : Prop where
  base : attributeBase o m X.env (eval o X.env) = eval o X.env
  few : ((backTo cpos (starEach [e] X.env)).all (fun x => !x.1) && (backToKw cpos (keywordEach [] X.env)).all (fun x => x.1.isSome)
    && decide (([e] : List Expr).length + ([] : List Keyword).length + (if ([] : List Keyword).isEmpty then 0 else 1) < 30)) = true
  line : (apos.endLine == cpos.line) = true
  trees : backTo cpos (starEach [e] X.env) = [(false, eval e X.env)]
structure M2 (X : Cx) (o : Expr) (m : Str) (apos : Pos) (e f : Expr) (cpos : Pos) : Prop where
  base : attributeBase o m X.env (eval o X.env) = eval o X.env
  few : ((backTo cpos (starEach [e, f] X.env)).all (fun x => !x.1) && (backToKw cpos (keywordEach [] X.env)).all (fun x => x.1.isSome)
    && decide (([e, f] : List Expr).length + ([] : List Keyword).length + (if ([] : List Keyword).isEmpty then 0 else 1) < 30)) = true
  line : (apos.endLine == cpos.line) = true
  trees : backTo cpos (starEach [e, f] X.env) = [(false, eval e X.env), (false, eval f X.env)]
noncomputable def IsD (H : Hp) (a : Addr) : Prop := (∃ kvs, Rd H a (.dK kvs)) ∨ ∃ kvs, Rd H a (.dT kvs)
theorem A9 {X : Cx} {pins : List (Addr × Obj)} {σ : St} {H : Hp} {s : Shared} {a : Addr} (I : Inv X pins σ H s) (d : IsD H a) :
    s.TypeIs (.ref a) "dict" ∧ (∀ b, Value.ref a = .ref b → ∃ ob, s.heap.get? b = some ob ∧ ob.dict = none) ∧ (a == sysModules) = false := by
  rcases d with ⟨kvs, e⟩ | ⟨kvs, e⟩
  · obtain ⟨_, hd, vs, _, dd⟩ := pq I.hok e
    refine ⟨dd.typeIs, fun b q => ?_, hd⟩
    cases q
    obtain ⟨ob, _, _, h1, h2, _⟩ := dd
    exact ⟨ob, h1, h2.2.1⟩
  · obtain ⟨_, hd, xs, _, dd⟩ := nF I.hok e
    refine ⟨dd.typeIs, fun b q => ?_, hd⟩
    cases q
    obtain ⟨ob, _, _, h1, h2, _⟩ := dd
    exact ⟨ob, h1, h2.2.1⟩
section
variable {X : Cx} {pins : List (Addr × Obj)} {σ : St} {H : Hp} {s : Shared} {a : Addr} {y d : V} {u r : Value} {o : Option V} {A : Around} {E : Value → Shared → Prop}
theorem zR {Q : Value → Shared → Prop} (hu : A.units + 1 < cLine) (I : Inv X pins σ H s) (g : hV H a y o) (ry : RelV y u) (rd : RelV d r) (h : ∀ w' s', Inv X pins σ H s' → RelV (o.getD d) w' → Q w' s') :
    wpAny (model X.prog X.w) A (call (.builtin "dict.get") [.ref a, u, r]) Q E s := by
  rcases g with ⟨kvs, k, e, ey, l⟩ | ⟨kvs, k, b, e, ey, eb, l⟩
  · subst ey
    obtain ⟨z, hd, vs, rel, dd⟩ := pq I.hok e
    refine call_meetsIn PySem.F.slot_dict_get dd.typeIs PySem.F.entry_dict_get (PySem.F.args_dict_get_3 _ _ _) (meets_dict_get_default (di X.prog X.w) a (oK ry) hd r) ⟨_, dd.mapOf, h _ _ (I.tok _) ?_⟩
    rw [l]
    exact (rel.val k).getD rd
  · subst ey
    cases (show u = Value.ref b from ry)
    obtain ⟨z, hd, xs, rel, dd⟩ := nF I.hok e
    refine call_meetsIn PySem.F.slot_dict_get dd.typeIs PySem.F.entry_dict_get (PySem.F.args_dict_get_3 _ _ _) (meetsH_dict_get_default (tupleKind (di X.prog X.w)) a b hd r) ⟨tupleKind_room_in1 hu, k, xs, pd I.hok eb, dd, h _ _ (I.tok _) ?_⟩
    rw [l]
    exact (rel.val k).getD rd
end
noncomputable def As (td ty tx : TE) : TE := fun σ H Q => td σ H fun x H1 => ∃ a, x = .ref a ∧ IsD H1 a ∧ ty σ H1 fun y H2 => tx σ H2 fun z H3 => ∃ o, hV H3 a y o ∧ Q (o.getD z) H3
section
variable {X : Cx} {o e f : Expr} {apos cpos : Pos} {td ty tx : TE}
theorem vN (hu : X.A.units + 1 < cLine) (ho : PE X o td) (he : PE X e ty) (hf : PE X f tx) (m : M2 X o "get" apos e f cpos) : PE X (.Call (.Attribute o "get" apos) [e, f] [] cpos) (As td ty tx) := by
  intro pins s σ H Q I h
  refine wpAny_Call_method m.base m.few m.line PySem.F.plainAttrs_dict PySem.F.slot_dict_get PySem.F.type_dict_get (thn (ho pins s σ H _ I h) fun u s1 ⟨x, H1, I1, rx, a, ex, d, q1⟩ => ?_)
  subst ex
  obtain rfl : u = Value.ref a := rx
  obtain ⟨t1, t2, _⟩ := A9 I1 d
  refine ⟨t1, t2, ?_⟩
  rw [m.trees]
  refine Calls.callWith_builtin rfl (Calls.evalArgs_plain (Calls.spliced_cons (thn (he pins s1 σ H1 _ I1 q1) fun iv s2 ⟨y, H2, I2, ry, q2⟩ =>
    Calls.spliced_cons (thn (hf pins s2 σ H2 _ I2 q2) fun fv s3 ⟨z, H3, I3, rz, ov, g, q3⟩ => Calls.spliced_nil ?_))))
  exact zR hu I3 g ry rz fun w' s4 I4 rw' => ⟨_, H3, I4, rw', q3⟩
end
end L2
namespace DL
open PySem PySem.Spec PyProof.Rows L2
section
variable {K : PySem.W.Frag} {E : Str → Hp → Prop} {H H1 H2 H' : Hp} {Ω Ω1 Ω2 Ω' : Om} {σ : St} {δ : DSt} {mp : List Nat}
theorem Ext.allocK {p : Addr} {o : HO} {k : Nat} (hp : H p = none) (trk : Trk H Ω) : Ext H Ω (upd H p o) (aQ Ω p (k + 1)) where
  keep := fun b o' e _ => by rw [aD (cz e hp)]; exact e
  new := fun b e h => by
    unfold aQ
    rw [if_neg (fun z => h (by rw [z]; exact hp))]
    exact e
  fr := fun b => by
    unfold aQ
    split
    · rename_i z
      subst z
      constructor
      · intro q
        obtain ⟨vs, e, _⟩ := trk _ _ q
        rw [hp] at e; cases e
      · intro q; cases q
    · exact Iff.rfl
  live := fun b e => by
    unfold upd at e
    split at e
    · cases e
    · exact e
theorem ar.allocK {p : Addr} {o : HO} {k : Nat} (R : ar K H Ω σ δ) (hp : H p = none) (ho : bB o = false) : ar K (upd H p o) (DL.aQ Ω p (k + 1)) σ δ :=
  R.ext (.allocK hp R.trk) (fun b j u q1 q2 => by
    have : b ≠ p := cz q2 hp
    exact ⟨by rw [aD this]; exact q2, by unfold DL.aQ; rw [if_neg this]; exact q1⟩) fun a j q => by
    by_cases h : a = p
    · subst h; exact ⟨_, aT, ho⟩
    · unfold DL.aQ at q
      rw [if_neg h] at q
      obtain ⟨vs, e, f⟩ := R.trk a j q
      exact ⟨vs, by rw [aD h]; exact e, f⟩
theorem Ext.putK {p : Addr} {k : Nat} {o : HO} (hl : ∃ vs, H p = some vs ∧ bB vs = false) (hp : Ω p = some (k + 1)) : Ext H Ω (upd H p o) Ω := .putOw hl hp
theorem ar.putK {i : Nat} {p : Addr} {o : HO} {s : Sl} (R : ar K H Ω σ δ) (hl : ∃ vs, H p = some vs ∧ bB vs = false) (hp : Ω p = some (i + 2)) (ho : bB o = false) (hs : eU K (upd H p o) Ω i s (σ[i]?).join) : ar K (upd H p o) Ω σ (δ.set i s) := by
  refine ⟨by rw [List.length_set]; exact R.len, fun j s' h => ?_, fun a k q => ?_⟩
  · by_cases hj : i = j
    · subst hj
      have hl' : i < δ.length := by
        have := (List.getElem?_eq_some_iff.mp h).1
        rwa [List.length_set] at this
      rw [List.getElem?_set_self hl'] at h
      cases h
      exact hs
    · rw [List.getElem?_set_ne hj] at h
      have ex : Ext H Ω (upd H p o) Ω := .putK hl hp
      refine (R.sl j s' h).mv (fun _ _ => .ext ex) (fun _ _ => .ext ex) fun a ws e3 e2 => ?_
      have ha : a ≠ p := by
        rintro rfl
        rw [hp] at e3
        exact hj (by have := Option.some.inj e3; omega)
      exact ⟨by rw [aD ha]; exact e2, e3⟩
  · by_cases ha : a = p
    · subst ha; exact ⟨_, aT, ho⟩
    · obtain ⟨ws, e, f⟩ := R.trk a k q
      exact ⟨ws, by rw [aD ha]; exact e, f⟩
end
section
variable {X : Cx} {E : Str → Hp → Prop} {pos : Pos} {e e1 : Expr} {f f1 : DM DV} {mp : List Nat}
end
section
variable {i : Nat} {δ δ1 δ2 : DSt} {f f1 f2 : DM DV}
end
end DL
namespace DL
open PySem PySem.Spec PyProof.Rows L2
noncomputable def hid (Ω : Om) (k : Nat) : Om := fun b => if Ω b = some (k + 2) then some 0 else Ω b
noncomputable def unh (Ω Ω' : Om) (k : Nat) : Om := fun b => if Ω b = some (k + 2) then some (k + 2) else Ω' b
noncomputable def dR (Ω : Om) (k : Nat) : Om := fun b => if Ω b = some (k + 2) then none else Ω b
noncomputable def lab (Ω : Om) (S : List Addr) (k : Nat) : Om := fun b => if b ∈ S then some k else Ω b
section
variable {K : PySem.W.Frag} {E : Str → Hp → Prop} {H H1 H2 H' : Hp} {Ω Ω1 Ω2 Ω' : Om} {σ : St} {δ : DSt} {mp : List Nat} {k : Nat} {S : List Addr}
theorem iw {b : Addr} (h : Ω b = some (k + 2)) : unh Ω Ω' k b = some (k + 2) := by unfold unh; rw [if_pos h]
theorem eh {b : Addr} (h : Ω b ≠ some (k + 2)) : unh Ω Ω' k b = Ω' b := by unfold unh; rw [if_neg h]
theorem oP {b : Addr} (h : Ω b = some (k + 2)) : hid Ω k b = some 0 := by unfold hid; rw [if_pos h]
theorem lW {b : Addr} (h : Ω b ≠ some (k + 2)) : hid Ω k b = Ω b := by unfold hid; rw [if_neg h]
theorem ia {b : Addr} (h : b ∈ S) : lab Ω S k b = some k := by unfold lab; rw [if_pos h]
theorem fw {b : Addr} (h : b ∉ S) : lab Ω S k b = Ω b := by unfold lab; rw [if_neg h]
theorem Az : unh Ω (hid Ω k) k = Ω := by
  funext b
  by_cases h : Ω b = some (k + 2)
  · rw [iw h, h]
  · rw [eh h, lW h]
theorem Ext.unh2 (e : Ext H1 Ω1 H2 Ω2) (hb : ∀ b, Ω b = some (k + 2) → Ω1 b = some 0) : Ext H1 (unh Ω Ω1 k) H2 (unh Ω Ω2 k) where
  keep := fun b o q h => by
    by_cases z : Ω b = some (k + 2)
    · exact e.keep b o q (.inr (.inr (hb b z)))
    · rw [eh z] at h; exact e.keep b o q h
  new := fun b q h => by
    by_cases z : Ω b = some (k + 2)
    · rw [iw z] at q; cases q
    · rw [eh z] at q ⊢; exact e.new b q h
  fr := fun b => by
    by_cases z : Ω b = some (k + 2)
    · rw [iw z, iw z]
    · rw [eh z, eh z]; exact e.fr b
  live := e.live
theorem Ext.unh (e : Ext H (hid Ω k) H2 Ω2) : Ext H Ω H2 (unh Ω Ω2 k) := by
  have := e.unh2 (Ω := Ω) (k := k) fun b q => oP q
  rwa [Az] at this
theorem vq (e : Ext H (hid Ω k) H2 Ω2) (t : Trk H Ω) (t2 : Trk H2 Ω2) : Trk H2 (unh Ω Ω2 k) := fun b j q => by
  by_cases z : Ω b = some (k + 2)
  · obtain ⟨vs, w, f⟩ := t b _ z
    exact ⟨vs, e.keep b _ w (.inr (.inr (oP z))), f⟩
  · rw [eh z] at q; exact t2 b j q
theorem ar.hid {i : Nat} (R : ar K H Ω σ δ) : ar K H (DL.hid Ω i) σ (δ.set i .no) := by
  refine ⟨by rw [List.length_set]; exact R.len, fun j s h => ?_, fun b j q => ?_⟩
  · by_cases hj : i = j
    · subst hj
      have hl : i < δ.length := by
        have := (List.getElem?_eq_some_iff.mp h).1
        rwa [List.length_set] at this
      rw [List.getElem?_set_self hl] at h
      cases h
      trivial
    · rw [List.getElem?_set_ne hj] at h
      have hn : ∀ b, Ω b = none → DL.hid Ω i b = none := fun b q => by rw [lW (by rw [q]; exact fun z => by cases z)]; exact q
      exact (R.sl j s h).mv (fun _ _ => Rep.less hn) (fun _ _ => au.less hn) fun b vs q1 q2 => ⟨q2, by rw [lW (by rw [q1]; intro z; exact hj (by have := Option.some.inj z; omega))]; exact q1⟩
  · by_cases z : Ω b = some (i + 2)
    · exact R.trk b _ z
    · rw [lW z] at q; exact R.trk b j q
theorem ar.unh {i : Nat} (R : ar K H2 Ω2 σ δ) (e : Ext H (DL.hid Ω i) H2 Ω2) (t : Trk H Ω) : ar K H2 (DL.unh Ω Ω2 i) σ δ := by
  have h0 : ∀ b, Ω b = some (i + 2) → Ω2 b = some 0 := fun b q => (e.fr b).mp (oP q)
  refine R.relabel (fun b q => ?_) (fun b j q => ?_) (vq e t R.trk)
  · rw [eh]
    · exact q
    · intro z; rw [h0 b z] at q; cases q
  · rw [eh]
    · exact q
    · intro z; rw [h0 b z] at q; cases q
theorem Ext.dR {i : Nat} : Ext H Ω H (dR Ω i) where
  keep := fun b o q _ => q
  new := fun b q _ => by unfold DL.dR; split <;> first | rfl | exact q
  fr := fun b => by
    unfold DL.dR
    split
    · rename_i z; rw [z]; constructor <;> intro q <;> cases q
    · exact Iff.rfl
  live := fun b q => q
theorem sP {i : Nat} : ∀ b, Ω b = none → dR Ω i b = none := fun b q => by unfold dR; split <;> first | rfl | exact q
theorem Ext.labs (e : Ext H Ω H' Ω') (hs : ∀ b ∈ S, Ω b = some 0) : Ext H (lab Ω S 1) H' (lab Ω' S 1) where
  keep := fun b o q h => by
    by_cases z : b ∈ S
    · exact e.keep b o q (.inr (.inr (hs b z)))
    · rw [fw z] at h; exact e.keep b o q h
  new := fun b q h => by
    by_cases z : b ∈ S
    · rw [ia z] at q; cases q
    · rw [fw z] at q ⊢; exact e.new b q h
  fr := fun b => by
    by_cases z : b ∈ S
    · rw [ia z, ia z]
    · rw [fw z, fw z]; exact e.fr b
  live := e.live
theorem ar.putIn {i j : Nat} {a b : Addr} {bs : List Addr} {xss : List (List D)} {es : List D} {ys : List V} (R : ar K H Ω σ δ) (hσ : (σ[i]?).join = some (.ref a)) (ha : H a = some (.lst (bs.map V.ref))) (oa : Ω a = some (i + 2)) (nd : (a :: bs).Nodup) (hl : bs.length = xss.length)
    (hn : Nst K H Ω (i + 2) xss bs) (hb : bs[j]? = some b) (r : au K H Ω es ys) : ar K (upd H b (.lst ys)) Ω σ (δ.set i (.nw (xss.set j es))) := by
  have hj : j < xss.length := by rw [← hl]; exact (List.getElem?_eq_some_iff.mp hb).1
  obtain ⟨ws, w1, w2, w3⟩ := hn j b _ hb (List.getElem?_eq_getElem hj)
  have hl' : ∃ vs, H b = some vs ∧ bB vs = false := ⟨_, w1, rfl⟩
  have ob : Ω b ≠ none := by rw [w2]; exact Option.some_ne_none _
  have nb : (bs : List Addr).Nodup := (List.nodup_cons.mp nd).2
  have ab : a ≠ b := by rintro rfl; exact (List.nodup_cons.mp nd).1 (List.mem_of_getElem? hb)
  refine ⟨by rw [List.length_set]; exact R.len, fun q s h => ?_, fun c k q => ?_⟩
  · by_cases hq : i = q
    · subst hq
      have hl2 : i < δ.length := by
        have := (List.getElem?_eq_some_iff.mp h).1
        rwa [List.length_set] at this
      rw [List.getElem?_set_self hl2] at h
      cases h
      refine ⟨a, bs, hσ, by rw [aD ab]; exact ha, oa, nd, by rw [List.length_set]; exact hl, fun m c ms z1 z2 => ?_⟩
      by_cases hm : j = m
      · subst hm
        rw [hb] at z1
        cases z1
        rw [List.getElem?_set_self hj] at z2
        cases z2
        exact ⟨ys, aT, w2, r.put hl' ob⟩
      · rw [List.getElem?_set_ne hm] at z2
        obtain ⟨us, y1, y2, y3⟩ := hn m c ms z1 z2
        have cb : c ≠ b := by
          rintro rfl
          obtain ⟨q1, q2⟩ := List.getElem?_eq_some_iff.mp hb
          obtain ⟨q3, q4⟩ := List.getElem?_eq_some_iff.mp z1
          have pw := List.pairwise_iff_getElem.mp nb
          rcases Nat.lt_trichotomy j m with z | z | z
          · exact pw j m q1 q3 z (q2.trans q4.symm)
          · exact hm z
          · exact pw m j q3 q1 z (q4.trans q2.symm)
        exact ⟨us, by rw [aD cb]; exact y1, y2, y3.put hl' ob⟩
    · rw [List.getElem?_set_ne hq] at h
      refine (R.sl q s h).mv (fun _ _ z => z.put hl' ob) (fun _ _ z => z.put hl' ob) fun c us y1 y2 => ?_
      have cb : c ≠ b := by
        rintro rfl
        rw [w2] at y1
        exact hq (by have := Option.some.inj y1; omega)
      exact ⟨by rw [aD cb]; exact y2, y1⟩
  · by_cases cb : c = b
    · subst cb; exact ⟨_, aT, rfl⟩
    · obtain ⟨us, e, f⟩ := R.trk c k q
      exact ⟨us, by rw [aD cb]; exact e, f⟩
end
section
variable {X : Cx} {E : Str → Hp → Prop} {pos : Pos} {e e1 : Expr} {f f1 : DM DV} {mp : List Nat}
end
section
variable {i : Nat} {δ δ1 δ2 : DSt} {fi : DM (List D)} {f1 f2 : DM DV}
end
end DL
namespace L2
open PySem PySem.Spec PyProof.Rows
section
variable {X : Cx}
end
end L2
namespace DL
open PySem PySem.Spec PyProof.Rows L2
section
variable {X : Cx} {E : Str → Hp → Prop} {e : Expr} {f : DM DV} {pos : Pos}
noncomputable def imax (i j : Int) : Int := if j > i then j else i
noncomputable def mZ : List D → Option DV
  | [.int i, .int j] => some (.val (.int (imax i j)))
  | _ => none
theorem AK (hc : X.calm = true) : fV X (.builtin "max") mZ := ⟨_, Br hc, by
  intro E σ H δ Ω vs ds z Q R r hz h
  unfold mZ at hz
  split at hz
  · cases hz
    obtain ⟨v, v', e, rv, rv'⟩ := sy r
    cases (show v = .int _ from rv)
    cases (show v' = .int _ from rv')
    exact ⟨_, _, e, h.now R rfl⟩
  · cases hz⟩
end
end DL
namespace DL
open PySem PySem.Spec PyProof.Rows L2
section
variable {K : PySem.W.Frag} {E : Str → Hp → Prop} {H H1 H2 H' : Hp} {Ω Ω1 Ω2 Ω' : Om} {σ : St} {δ : DSt} {mp : List Nat} {S : List Addr}
theorem Ext.labK {k : Nat} (hs : ∀ b ∈ S, ∃ j, Ω b = some (j + 1)) : Ext H Ω H (lab Ω S (k + 1)) where
  keep := fun b o q _ => q
  new := fun b q h => by
    by_cases z : b ∈ S
    · obtain ⟨j, z⟩ := hs b z; rw [z] at q; cases q
    · rw [fw z]; exact q
  fr := fun b => by
    by_cases z : b ∈ S
    · obtain ⟨j, w⟩ := hs b z; rw [ia z, w]; constructor <;> intro q <;> cases q
    · rw [fw z]
  live := fun b q => q
theorem qQ {k : Nat} (t : Trk H Ω) (hs : ∀ b ∈ S, ∃ j, Ω b = some (j + 1)) : Trk H (lab Ω S k) := fun b j q => by
  by_cases z : b ∈ S
  · obtain ⟨j, w⟩ := hs b z; exact t b _ w
  · rw [fw z] at q; exact t b j q
noncomputable def iA (K : PySem.W.Frag) (H : Hp) (Ω : Om) (k : Nat) (a : Addr) (bs : List Addr) (xss : List (List D)) : Prop := H a = some (.lst (bs.map V.ref)) ∧ Ω a = some k ∧ (a :: bs).Nodup ∧ bs.length = xss.length ∧ Nst K H Ω k xss bs
theorem iA.own {k : Nat} {a : Addr} {bs : List Addr} {xss : List (List D)} (h : iA K H Ω k a bs xss) : ∀ b ∈ a :: bs, Ω b = some k := fun b hb => by
  obtain ⟨h1, h2, h3, h4, h5⟩ := h
  rcases List.mem_cons.mp hb with rfl | hb
  · exact h2
  · obtain ⟨j, hj, e⟩ := List.mem_iff_getElem.mp hb
    obtain ⟨ws, _, q, _⟩ := h5 j b (xss[j]'(by omega)) (by rw [List.getElem?_eq_getElem hj, e]) (List.getElem?_eq_getElem (by omega))
    exact q
theorem iA.to {k m : Nat} {a : Addr} {bs : List Addr} {xss : List (List D)} (h : iA K H Ω (k + 1) a bs xss) : iA K H (lab Ω (a :: bs) (m + 1)) (m + 1) a bs xss := by
  have ho := h.own
  obtain ⟨h1, h2, h3, h4, h5⟩ := h
  refine ⟨h1, ia List.mem_cons_self, h3, h4, fun j b xs z1 z2 => ?_⟩
  obtain ⟨ws, w1, w2, w3⟩ := h5 j b xs z1 z2
  exact ⟨ws, w1, ia (List.mem_cons_of_mem _ (List.mem_of_getElem? z1)), w3.ext (.labK fun b hb => ⟨k, ho b hb⟩)⟩
noncomputable def spL (K : PySem.W.Frag) (n : Nat) (M : List D → Option (List (List D))) : Sp := fun vs H Q _ => vs.length = n ∧ ∃ Ω ds, Trk H Ω ∧ (∀ b k, Ω b = some k → k = 0) ∧ au K H Ω ds vs ∧ ∃ xss, M ds = some xss ∧ ∀ H' Ω', Ext H Ω H' Ω' → Trk H' Ω' → ∀ a bs, iA K H' Ω' 1 a bs xss → Q (.ref a) H'
noncomputable def nG : D → Bool
  | .non => true
  | .bl _ => true
  | .int _ => true
  | .str _ => true
  | _ => false
noncomputable def mC : D → Bool
  | .tup xs => xs.all nG
  | .non => true
  | .bl _ => true
  | .int _ => true
  | .str _ => true
  | _ => false
theorem Rep.atom {d : D} {v : V} (h : Rep K H Ω d v) (q : nG d = true) : Rep K H Ω' d v := by
  cases d <;> first | exact h | cases q
theorem au.atom : ∀ {ds : List D} {vs : List V}, au K H Ω ds vs → ds.all nG = true → au K H Ω' ds vs
  | [], _, h, _ => h
  | _ :: _, _, h, q => by
    obtain ⟨v, r, e1, e2, e3⟩ := (show ∃ v r, _ from h)
    rw [List.all_cons, Bool.and_eq_true] at q
    exact ⟨v, r, e1, e2.atom q.1, au.atom e3 q.2⟩
theorem Rep.fla {d : D} {v : V} (h : Rep K H Ω d v) (q : mC d = true) : Rep K H Ω' d v := by
  cases d with
  | tup ds =>
    obtain ⟨a, vs, e1, e2, e3⟩ := (show ∃ a vs, _ from h)
    exact (show ∃ a vs, _ from ⟨a, vs, e1, e2, e3.atom q⟩)
  | _ => first | exact h | cases q
theorem au.fla : ∀ {ds : List D} {vs : List V}, au K H Ω ds vs → ds.all mC = true → au K H Ω' ds vs
  | [], _, h, _ => h
  | _ :: _, _, h, q => by
    obtain ⟨v, r, e1, e2, e3⟩ := (show ∃ v r, _ from h)
    rw [List.all_cons, Bool.and_eq_true] at q
    exact ⟨v, r, e1, e2.fla q.1, au.fla e3 q.2⟩
noncomputable def lh : Sl → Sl
  | .sh d => if mC d = true then .sh d else .no
  | .ow ds => if ds.all mC = true then .ow ds else .no
  | _ => .no
noncomputable def ny (mq : List Nat) (δ : DSt) (j : Nat) (s : Sl) : Sl := if j ∈ mq then (match δ[j]? with | some (.sh d) => .sh d | _ => lh s) else lh s
noncomputable def iY (mq : List Nat) (δ : DSt) : Nat → DSt → DSt
  | _, [] => []
  | j, s :: r => ny mq δ j s :: iY mq δ (j + 1) r
theorem so {mq : List Nat} : ∀ (l : DSt) (n : Nat), (iY mq δ n l).length = l.length
  | [], _ => rfl
  | _ :: r, n => congrArg (· + 1) (so r (n + 1))
theorem qP {mq : List Nat} : ∀ (l : DSt) (n j : Nat), (iY mq δ n l)[j]? = (l[j]?).map (ny mq δ (n + j))
  | [], _, _ => rfl
  | _ :: _, _, 0 => rfl
  | _ :: r, n, j + 1 => by
    show (iY mq δ (n + 1) r)[j]? = (r[j]?).map _
    rw [qP r (n + 1) j, Nat.add_right_comm]; rfl
theorem mY {i : Nat} {b : Addr} (h : Ω b = some (i + 2)) : dR Ω i b = none := by unfold dR; rw [if_pos h]
theorem rl {i : Nat} {b : Addr} (h : Ω b ≠ some (i + 2)) : dR Ω i b = Ω b := by unfold dR; rw [if_neg h]
theorem Ext.unf {i : Nat} (e : Ext H (DL.dR Ω i) H2 Ω2) : Ext H Ω H2 (DL.unh Ω Ω2 i) where
  keep := fun b o q h => e.keep b o q (h.imp_right fun z => z.imp (fun z => sP b z) fun z => by rw [rl (by rw [z]; intro y; cases y)]; exact z)
  new := fun b q h => by
    rw [eh (by rw [q]; intro y; cases y)]
    exact e.new b (sP b q) h
  fr := fun b => by
    by_cases z : Ω b = some (i + 2)
    · rw [iw z, z]
    · rw [eh z, ← rl z]; exact e.fr b
  live := e.live
theorem xo {i : Nat} (e : Ext H (dR Ω i) H2 Ω2) (t : Trk H Ω) (t2 : Trk H2 Ω2) : Trk H2 (unh Ω Ω2 i) := fun b j q => by
  by_cases z : Ω b = some (i + 2)
  · obtain ⟨vs, w, f⟩ := t b _ z
    exact ⟨vs, e.keep b _ w (.inr (.inl (mY z))), f⟩
  · rw [eh z] at q; exact t2 b j q
theorem ar.jZ {i : Nat} {xss : List (List D)} {mq : List Nat} {σ' : St} {δ' : DSt} (R : ar K H Ω σ δ) (hd : δ[i]? = some (.nw xss)) (e : Ext H (DL.dR Ω i) H' Ω') (R' : ar K H' Ω' σ' δ') (hm : ∀ j ∈ mq, σ'[j]? = σ[j]?) (hi : i ∈ mq) :
    ar K H' (DL.unh Ω Ω' i) σ' ((iY mq δ 0 δ').set i (.nw xss)) := by
  have ex := e.unf
  have fl : ∀ j s, eU K H' Ω' j s (σ'[j]?).join → eU K H' (DL.unh Ω Ω' i) j (lh s) (σ'[j]?).join := fun j s h => by
    cases s with
    | sh d =>
      unfold lh
      dsimp only
      split
      · rename_i q
        obtain ⟨v, e1, e2⟩ := h
        exact ⟨v, e1, e2.fla q⟩
      · trivial
    | ow ds =>
      unfold lh
      dsimp only
      split
      · rename_i q
        obtain ⟨p, vs, e1, e2, e3, e4⟩ := h
        refine ⟨p, vs, e1, e2, ?_, e4.fla q⟩
        rw [eh]
        · exact e3
        · intro z
          obtain ⟨u, hu, _⟩ := R.trk p _ z
          rw [e.new p (mY z) (by rw [hu]; exact Option.some_ne_none _)] at e3
          cases e3
      · trivial
    | _ => trivial
  refine ⟨by rw [List.length_set, so]; exact R'.len, fun j s h => ?_, xo e R.trk R'.trk⟩
  by_cases hj : i = j
  · subst hj
    have hl : i < (iY mq δ 0 δ').length := by
      have := (List.getElem?_eq_some_iff.mp h).1
      rwa [List.length_set] at this
    rw [List.getElem?_set_self hl] at h
    cases h
    obtain ⟨a, bs, e1, e2, e3, e4, e5, e6⟩ := R.sl i _ hd
    refine ⟨a, bs, by rw [hm i hi]; exact e1, e.keep a _ e2 (.inr (.inl (mY e3))), iw e3, e4, e5, fun k b xs z1 z2 => ?_⟩
    obtain ⟨ws, w1, w2, w3⟩ := e6 k b xs z1 z2
    exact ⟨ws, e.keep b _ w1 (.inr (.inl (mY w2))), iw w2, w3.ext ex⟩
  · rw [List.getElem?_set_ne hj, qP, Nat.zero_add] at h
    obtain ⟨s', h1, rfl⟩ := Option.map_eq_some_iff.mp h
    have r := R'.sl j s' h1
    unfold ny
    split
    · rename_i hq
      split
      · rename_i d hd'
        obtain ⟨v, e1, e2⟩ := R.sl j _ hd'
        exact ⟨v, by rw [hm j hq]; exact e1, e2.ext ex⟩
      · exact fl j s' r
    · exact fl j s' r
noncomputable def dg (d : D) (t : Nat) (xss : List (List D)) : List (List D) := (xss.take t).map (· ++ [d]) ++ xss.drop t
theorem wB {d : D} {t : Nat} {xss : List (List D)} {xs : List D} (h : xss[t]? = some xs) : (dg d t xss)[t]? = some xs := by
  have ht := (List.getElem?_eq_some_iff.mp h).1
  have hl : ((xss.take t).map (· ++ [d])).length = t := by rw [List.length_map, List.length_take]; omega
  unfold dg
  rw [List.getElem?_append_right (by omega), hl, Nat.sub_self, drop_cons h]; rfl
theorem A4 {d : D} {t : Nat} {xss : List (List D)} {xs : List D} (h : xss[t]? = some xs) : (dg d t xss).set t (xs ++ [d]) = dg d (t + 1) xss := by
  have ht := (List.getElem?_eq_some_iff.mp h).1
  have hl : ((xss.take t).map (· ++ [d])).length = t := by rw [List.length_map, List.length_take]; omega
  unfold dg
  rw [List.set_append_right _ _ (by omega), hl, Nat.sub_self, drop_cons h, List.set_cons_zero, List.take_add_one, h]
  simp
noncomputable def iL (i j : Nat) (d : D) : DM Fl := fun δ => match δ[i]? with
  | some (.nw xss) => if i ≠ j ∧ j < δ.length ∧ (∀ xs ∈ xss, xs.length < sizeLine) then .ok .nx ((δ.set j .no).set i (.nw (dg d xss.length xss))) else .un
  | _ => .un
end
section
variable {P : Program} {w : World} {K : PySem.W.Frag} {mg : Str → Option Value} {base : Heap} {H : Hp} {Ω : Om}
end
section
variable {X : Cx} {E : Str → Hp → Prop} {pos : Pos} {a b c e : Expr} {f g : DM DV} {mp : List Nat}
structure BE (P : Program) (w : World) (K : PySem.W.Frag) (mg : Str → Option Value) (base : Heap) (k : Nat) (x : Str) (n : Nat) (M : List D → Option (List (List D))) : Prop where
  ex : ∃ (f : Addr) (fd : FuncData) (ps : List Str), aO P w K mg base CX0 k f fd ps (spL K n M) ∧ mg x = some (.ref f) ∧ PySem.W.keepIn K (.ref f) = true ∧ Binds K fd ps []
theorem qA : ∀ {as bs : List Addr}, as.map V.ref = bs.map V.ref → as = bs
  | [], [], _ => rfl
  | [], _ :: _, h => by cases h
  | _ :: _, [], h => by cases h
  | a :: as, b :: bs, h => by
    injection h with h1 h2
    injection h1 with h1
    rw [h1, qA h2]
theorem Bz (i j : Nat) {x y tx : Str} {kk : Nat} {p p0 p2 cp apos cpos epos : Pos} (hp : PassesOwn (model X.prog X.w) X.A X.env X.xe) (hc : X.calm = true) (hND : X.N.Nodup) (hN : X.N[i]? = some x := by rfl) (hv : Vis X.env.scope x := by first | exact Or.inl rfl | exact Or.inr (Or.inl rfl) | exact Or.inr (Or.inr rfl))
    (hd : (x == ("__debug__" : Str)) = false := by decide) (hcd : (x == ("__classdict__" : Str)) = false := by decide)
    (hNj : X.N[j]? = some y := by rfl) (hvj : Vis X.env.scope y := by first | exact Or.inl rfl | exact Or.inr (Or.inl rfl) | exact Or.inr (Or.inr rfl))
    (hdj : (y == ("__debug__" : Str)) = false := by decide) (hcdj : (y == ("__classdict__" : Str)) = false := by decide)
    (hxj : Loc X.env.scope y := by first | exact Or.inl rfl | exact Or.inr rfl) (hfj : X.fn y = true ∨ X.env.scope.names.lookup y = some .local := by first | exact .inl rfl | exact .inr rfl) (hmj : j ∉ mp := by decide)
    (hset : ∀ z, foldedSetIterable (.Name x p) X.env z = pure z := by intro _; rfl)
    (hbase : attributeBase (.Name y p2) "append" X.env (eval (.Name y p2) X.env) = eval (.Name y p2) X.env := by rfl)
    (hfew : ((backTo cpos (starEach [.Constant (.str tx) kk cp] X.env)).all (fun x => !x.1) && (backToKw cpos (keywordEach [] X.env)).all (fun x => x.1.isSome)
      && decide (([.Constant (.str tx) kk cp] : List Expr).length + ([] : List Keyword).length + (if ([] : List Keyword).isEmpty then 0 else 1) < 30)) = true := by rfl)
    (hline : (apos.endLine == cpos.line) = true := by rfl) (hs : starEach [.Constant (.str tx) kk cp] X.env = (false, eval (.Constant (.str tx) kk cp) X.env) :: starEach [] X.env := by rfl)
    (hsw : swapsWith (.Call (.Attribute (.Name y p2) "append" apos) [.Constant (.str tx) kk cp] [] cpos) none epos.line X.env = pure false := by rfl) :
    PSD X E mp (.For (.Name y p0) (.Name x p) [.Expr (.Call (.Attribute (.Name y p2) "append" apos) [.Constant (.str tx) kk cp] [] cpos) epos] [] pos) (iL i j (.str tx)) := by
  refine ⟨_, sM hp hc (sd (pv i hN hv hd hcd)) (uk hND hNj hxj hfj) (nq (km (mK PySem.F.plainAttrs_list PySem.F.slot_list_append PySem.F.type_list_append kr (pv j hNj hvj hdj hcdj) (dX mm eA hs) hbase hfew hline hs rfl) hsw)) hset, ?_⟩
  intro σ H δ Ω R B h
  unfold iL at h
  split at h
  · rename_i xss hds
    split at h
    · rename_i hcc
      obtain ⟨hij, hjl, hz⟩ := hcc
      obtain ⟨a, bs, b1, b2, b3, b4, b5, b6⟩ := R.sl i _ hds
      have hil : i < δ.length := (List.getElem?_eq_some_iff.mp hds).1
      refine ⟨.ref a, join_some b1, a, rfl, ⟨_, SqL.of b2⟩, fun t m σ' H' => m = xss.length - t ∧ t ≤ xss.length ∧ ar X.K H' Ω σ' ((δ.set j .no).set i (.nw (dg (.str tx) t xss))) ∧ Ext H Ω H' Ω ∧ H' a = some (.lst (bs.map V.ref)) ∧ σ'[i]? = some (some (.ref a)) ∧ ∀ q ∈ mp, σ'[q]? = σ[q]?, ⟨_, rfl, Nat.zero_le _, ?_, .refl, b2, join_some b1, fun _ _ => rfl⟩, ?_⟩
      · have h0 : dg (.str tx) 0 xss = xss := by unfold dg; rw [List.take_zero, List.drop_zero]; rfl
        have : (δ.set j .no).set i (.nw xss) = δ.set j .no := by
          refine List.ext_getElem? fun k => ?_
          by_cases hk : i = k
          · subst hk
            rw [List.getElem?_set_self (by rw [List.length_set]; exact hil), List.getElem?_set_ne (Ne.symm hij), hds]
          · rw [List.getElem?_set_ne hk]
        rw [h0, this]
        exact R.forget
      · rintro t m σ' H' ⟨rfl, hl, R', ex, ha, hσ, hm⟩
        have hsq : SqL X.K H' a (bs.map V.ref) := SqL.of ha
        by_cases hlt : t < xss.length
        · obtain ⟨b, hb⟩ : ∃ b, bs[t]? = some b := ⟨bs[t]'(by omega), List.getElem?_eq_getElem _⟩
          obtain ⟨xs, hxs⟩ : ∃ xs, xss[t]? = some xs := ⟨xss[t], List.getElem?_eq_getElem hlt⟩
          refine .inr ⟨⟨_, .ref b, hsq, by rw [List.getElem?_map, hb]; rfl⟩, fun σ2 H2 => ar X.K H2 Ω σ2 ((δ.set j .no).set i (.nw (dg (.str tx) (t + 1) xss))) ∧ Ext H Ω H2 Ω ∧ H2 a = some (.lst (bs.map V.ref)) ∧ σ2[i]? = some (some (.ref a)) ∧ ∀ q ∈ mp, σ2[q]? = σ[q]?, fun σ2 H2 ⟨z1, z2, z3, z4, z5⟩ => ⟨_, by omega, rfl, hlt, z1, z2, z3, z4, z5⟩, fun x H2 hy => ?_⟩
          obtain ⟨hh, hy⟩ := hy
          subst hh
          have hx := hy _ hsq
          rw [List.getElem?_map, hb] at hx
          cases hx
          have hσl : j < σ'.length := by rw [← R'.len, List.length_set, List.length_set]; exact hjl
          have hset : ((δ.set j .no).set i (.nw (dg (.str tx) t xss))).set j .no = (δ.set j .no).set i (.nw (dg (.str tx) t xss)) := by
            rw [List.set_comm _ _ hij, List.set_set]
          have R2 : ar X.K H2 Ω (σ'.set j (some (.ref b))) ((δ.set j .no).set i (.nw (dg (.str tx) t xss))) := by rw [← hset]; exact R'.set trivial
          have hσ2 : (σ'.set j (some (.ref b)))[i]? = some (some (.ref a)) := by rw [List.getElem?_set_ne (Ne.symm hij)]; exact hσ
          have hi2 : ((δ.set j .no).set i (.nw (dg (.str tx) t xss)))[i]? = some (.nw (dg (.str tx) t xss)) := List.getElem?_set_self (by rw [List.length_set]; exact hil)
          obtain ⟨a', bs', c1, c2, c3, c4, c5, c6⟩ := R2.sl i _ hi2
          have c1' := c1
          rw [hσ2] at c1
          cases c1
          rw [ha] at c2
          have hbs : bs = bs' := qA (by injection c2 with c2; injection c2)
          subst hbs
          obtain ⟨ws, w1, w2, w3⟩ := c6 t b xs hb (wB hxs)
          have ab : a ≠ b := by rintro rfl; exact (List.nodup_cons.mp c4).1 (List.mem_of_getElem? hb)
          have R3 := R2.putIn c1' ha c3 c4 c5 c6 hb (w3.append (.cons (show Rep X.K H2 Ω (.str tx) (.str tx) from rfl) .nil))
          rw [List.set_set, A4 hxs] at R3
          refine ⟨.ref b, List.getElem?_set_self hσl, .inl ⟨rfl, ws, SqL.of w1⟩, ?_⟩
          unfold jS tC gL
          refine ⟨b, ws, .str tx, rfl, rfl, w1, by rw [← w3.length]; exact hz xs (List.mem_of_getElem? hxs), ?_⟩
          exact ⟨R3, ex.trans (.putOw (k := i + 1) ⟨_, w1, rfl⟩ w2), by rw [aD ab]; exact ha, hσ2, fun q hq => (set_same hmj q hq).trans (hm q hq)⟩
        · have : t = xss.length := by omega
          subst this
          exact .inl ⟨⟨_, hsq, by rw [List.length_map, b5]; exact Nat.le_refl _⟩, h H' Ω ex σ' R' hm⟩
    · exact h.elim
  · exact h.elim
end
section
variable {i j n : Nat} {δ δ1 δ2 : DSt} {f : DM DV} {f1 f2 : DM Fl} {fa : DM (List DV)} {as : List DV} {ds : List D} {xss : List (List D)} {Z : Rs Fl}
theorem xQ {d : D} (ho : δ[i]? = some (.nw xss)) (h1 : i ≠ j) (h2 : j < δ.length) (h3 : ∀ xs ∈ xss, xs.length < sizeLine) : iL i j d δ = .ok .nx ((δ.set j .no).set i (.nw (dg d xss.length xss))) := by unfold iL; rw [ho]; simp only [if_pos (And.intro h1 (And.intro h2 h3))]
end
end DL
namespace DL
open PySem PySem.Spec PyProof.Rows L2
section
variable {K : PySem.W.Frag} {E : Str → Hp → Prop} {H H1 H2 H' : Hp} {Ω Ω1 Ω2 Ω' : Om} {σ : St} {δ : DSt} {mp : List Nat}
noncomputable abbrev POx (K : PySem.W.Frag) (σ : St) (Q : List V → Hp → Prop) : List (List D) → DSt → Hp → Om → Prop := fun xss δ' H' Ω' => ar K H' Ω' σ δ' → ∀ bs : List Addr, bs.Nodup → bs.length = xss.length → Nst K H' Ω' 1 xss bs → Q (bs.map V.ref) H'
noncomputable def DOx (K : PySem.W.Frag) (E : Str → Hp → Prop) (ta : TA) (f : DM (List (List D))) : Prop := ∀ σ H δ Ω, ar K H Ω σ δ → ∀ Q, Wg E H Ω (POx K σ Q) (f δ) → ta σ H Q
noncomputable def kC : DM (List (List D)) := .ret []
noncomputable def dm (f : DM DV) (r : DM (List (List D))) : DM (List (List D)) := f.bd fun a => match a with
  | .own ds => r.bd fun xss => .ret (ds :: xss)
  | _ => fun _ => .un
theorem za : DOx K E gL kC := fun σ H δ Ω R Q h => h H Ω .refl R [] List.nodup_nil rfl fun j b xs z => by cases z
theorem AB {t : TE} {u : TA} {f : DM DV} {r : DM (List (List D))} (hf : DE K E t f) (hr : DOx K E u r) : DOx K E (jS t u) (dm f r) := by
  intro σ H δ Ω R Q h
  refine hf σ H δ Ω R _ (Wg.bd h fun a δ1 H1 Ω1 ex h1 R1 x r1 => ?_)
  cases a with
  | own ds =>
    obtain ⟨p, vs, e1, ep, e3, e4⟩ := r1
    subst e1
    have l1 : ∀ b, b ≠ p → ∀ {Ω : Om} {k : Nat}, lab Ω [p] k b = Ω b := fun b hb {Ω k} => fw fun z => hb (List.mem_singleton.mp z)
    have l0 : ∀ {Ω : Om} {k : Nat}, lab Ω [p] k p = some k := ia (List.mem_singleton.mpr rfl)
    have hback : lab (lab Ω1 [p] 0) [p] 1 = Ω1 := by
      funext b
      by_cases hb : b = p
      · subst hb; rw [l0, e3]
      · rw [l1 b hb, l1 b hb]
    have R2 : ar K H1 (lab Ω1 [p] 0) σ δ1 := R1.relabel (fun b q => by
        rw [l1 b (by rintro rfl; rw [e3] at q; cases q)]; exact q) (fun b k q => by
        rw [l1 b (by rintro rfl; rw [e3] at q; cases q)]; exact q) (qQ R1.trk fun b hb => ⟨0, by rw [List.mem_singleton.mp hb]; exact e3⟩)
    refine hr σ H1 δ1 _ R2 _ ?_
    have ext : ∀ {H2 Ω2}, Ext H1 (lab Ω1 [p] 0) H2 Ω2 → Ext H1 Ω1 H2 (lab Ω2 [p] 1) := fun {H2 Ω2} e => by
      have := e.labs (S := [p]) fun b hb => by rw [List.mem_singleton.mp hb]; exact l0
      rwa [hback] at this
    have z0 : ∀ {H2 Ω2}, Ext H1 (lab Ω1 [p] 0) H2 Ω2 → Ω2 p = some 0 := fun e => (e.fr p).mp l0
    have trk : ∀ {H2 Ω2}, Ext H1 (lab Ω1 [p] 0) H2 Ω2 → Trk H2 Ω2 → Trk H2 (lab Ω2 [p] 1) := fun {H2 Ω2} e t b k q => by
      by_cases hb : b = p
      · subst hb; exact t b 0 (z0 e)
      · rw [l1 b hb] at q; exact t b k q
    unfold DM.bd at h1
    dsimp only at h1
    cases q : r δ1 with
    | un => rw [q] at h1; exact h1
    | er c => rw [q] at h1; exact fun H2 Ω2 e2 t2 => h1 H2 _ (ext e2) (trk e2 t2)
    | ok xss δ2 =>
      rw [q] at h1
      intro H2 Ω2 e2 R3 bs nd hl hn
      have np : ∀ b, Ω2 b = some 1 → b ≠ p := fun b w => by rintro rfl; rw [z0 e2] at w; cases w
      have less : ∀ b, Ω2 b = none → lab Ω2 [p] 1 b = none := fun b w => by
        rw [l1 b (by rintro rfl; rw [z0 e2] at w; cases w)]; exact w
      refine h1 H2 _ (ext e2) (R3.relabel less (fun b k w => by
        rw [l1 b (by rintro rfl; rw [z0 e2] at w; cases w)]; exact w) (trk e2 R3.trk)) (p :: bs) (List.nodup_cons.mpr ⟨fun z => ?_, nd⟩) (congrArg (· + 1) hl) fun j b xs z1 z2 => ?_
      · obtain ⟨j, hj, e⟩ := List.mem_iff_getElem.mp z
        obtain ⟨ws, _, w, _⟩ := hn j p (xss[j]'(by omega)) (by rw [List.getElem?_eq_getElem hj, e]) (List.getElem?_eq_getElem (by omega))
        exact np p w rfl
      · cases j with
        | zero =>
          cases z1
          cases z2
          exact ⟨vs, e2.keep p _ ep (.inr (.inr l0)), l0, e4.ext (ext e2)⟩
        | succ j =>
          obtain ⟨ws, w1, w2, w3⟩ := hn j b xs z1 z2
          exact ⟨ws, w1, by rw [l1 b (np b w2)]; exact w2, w3.less less⟩
  | _ => exact h1.elim
noncomputable def ic (i : Nat) (f : DM (List (List D))) : DM Fl := f.bd fun xss δ => if xss.length ≤ sizeLine then .ok .nx (δ.set i (.nw xss)) else .un
theorem vh {i : Nat} {t : TA} {f : DM (List (List D))} (hi : i ∉ mp) (hf : DOx K E t f) : DS K E mp (hW (kS t) (gI i)) (ic i f) := by
  intro σ H δ Ω R B h
  refine hf σ H δ Ω R _ (Wg.bd h fun xss δ1 H1 Ω1 ex h1 R1 bs nd hl hn => ?_)
  split at h1
  · rename_i hz
    refine ⟨by rw [List.length_map, hl]; exact hz, fun p hp => ?_⟩
    have R2 := R1.alloc1 (xs := bs.map V.ref) hp
    have ex2 : Ext H1 Ω1 (upd H1 p (.lst (bs.map V.ref))) (bZ Ω1 p) := .alloc1 hp R1.trk
    have hb : ∀ b ∈ bs, Ω1 b = some 1 ∧ b ≠ p := fun b hb => by
      obtain ⟨j, hj, e⟩ := List.mem_iff_getElem.mp hb
      obtain ⟨ws, w0, w, _⟩ := hn j b (xss[j]'(by omega)) (by rw [List.getElem?_eq_getElem hj, e]) (List.getElem?_eq_getElem (by omega))
      exact ⟨w, by rintro rfl; rw [hp] at w0; cases w0⟩
    have hN : iA K (upd H1 p (.lst (bs.map V.ref))) (bZ Ω1 p) (0 + 1) p bs xss := by
      refine ⟨aT, by unfold bZ; rw [if_pos rfl], List.nodup_cons.mpr ⟨fun z => (hb p z).2 rfl, nd⟩, hl, fun j b xs z1 z2 => ?_⟩
      obtain ⟨ws, w1, w2, w3⟩ := hn j b xs z1 z2
      have bp : b ≠ p := (hb b (List.mem_of_getElem? z1)).2
      exact ⟨ws, by rw [aD bp]; exact w1, by unfold bZ; rw [if_neg bp]; exact w2, w3.ext ex2⟩
    have hs : ∀ b ∈ p :: bs, ∃ j, bZ Ω1 p b = some (j + 1) := fun b hb => ⟨0, hN.own b hb⟩
    have R3 : ar K (upd H1 p (.lst (bs.map V.ref))) (lab (bZ Ω1 p) (p :: bs) (i + 1 + 1)) σ δ1 := R2.relabel (fun b q => by
        rw [fw]
        · exact q
        · intro z; obtain ⟨j, z⟩ := hs b z; rw [z] at q; cases q) (fun b k q => by
        rw [fw]
        · exact q
        · intro z; rw [hN.own b z] at q; cases q) (qQ R2.trk hs)
    obtain ⟨n1, n2, n3, n4, n5⟩ := hN.to (m := i + 1)
    exact h1 _ _ (ex2.trans (.labK hs)) _ (R3.set ⟨p, bs, rfl, n1, n2, n3, n4, n5⟩) (set_same hi)
  · exact h1.elim
end
section
variable {X : Cx} {E : Str → Hp → Prop} {pos : Pos} {a b c e : Expr} {f g : DM DV} {mp : List Nat}
noncomputable def PLD (X : Cx) (E : Str → Hp → Prop) (es : List Expr) (f : DM (List (List D))) : Prop := ∃ t, PA X es t ∧ DOx X.K E t f
theorem u6 : PLD X E [] kC := ⟨_, eA, za⟩
theorem lu {es : List Expr} {r : DM (List (List D))} (ha : PED X E e f) (hr : PLD X E es r) (hs : starEach (e :: es) X.env = (false, eval e X.env) :: starEach es X.env := by rfl) : PLD X E (e :: es) (dm f r) := by
  obtain ⟨t, p, d⟩ := ha; obtain ⟨u, q, c⟩ := hr; exact ⟨_, dX p q hs, AB d c⟩
theorem vJ (i : Nat) {x : Str} {pos' pos2 : Pos} {es : List Expr} {r : DM (List (List D))} (hN : X.N.Nodup) (he : PLD X E es r) (hi : X.N[i]? = some x := by rfl) (hx : Loc X.env.scope x := by first | exact Or.inl rfl | exact Or.inr rfl) (hm : i ∉ mp := by decide)
    (hs : swapsWith (.List es pos2) (some (.Name x pos')) pos.line X.env = pure false := by rfl) (hf : X.fn x = true ∨ X.env.scope.names.lookup x = some .local := by first | exact .inl rfl | exact .inr rfl) : PSD X E mp (.Assign [.Name x pos'] (.List es pos2) pos) (ic i r) := by
  obtain ⟨t, p, d⟩ := he; exact ⟨_, m9 hN hi hx (mH p) hs hf, vh hm d⟩
end
end DL
namespace L2
open PySem PySem.Spec PyProof.Rows PySem.W
theorem bL.has {P : Program} {w : World} {H : Hp} {h : Heap} {a : Addr} {o : HO} (x : bL P w H h a o) : ∃ u, h.get? a = some u := by
  cases o with
  | lst xs => obtain ⟨_, _, _, _, e⟩ := x; exact ⟨_, e⟩
  | tup xs => obtain ⟨_, _, _, _, e, _⟩ := x; exact ⟨_, e⟩
  | dK kvs => obtain ⟨_, _, _, _, o, _, _, e, _⟩ := x; exact ⟨_, e⟩
  | dT kvs => obtain ⟨_, _, _, _, o, _, _, e, _⟩ := x; exact ⟨_, e⟩
  | set S n => obtain ⟨o, _, _, _, e, _⟩ := x; exact ⟨_, e⟩
  | ins C dx fs => obtain ⟨_, _, _, e, _⟩ := x; exact ⟨_, e⟩
  | own y => obtain ⟨_, e⟩ := x; exact ⟨_, e⟩
  | xd fs => obtain ⟨_, ⟨_, _, _, e, _⟩, _⟩ := x; exact ⟨_, e⟩
  | rng lo hi => obtain ⟨_, _, _, e⟩ := x; exact ⟨_, e⟩
  | frz ob u => obtain ⟨e, _⟩ := x; exact ⟨_, e⟩
  | tbl ps => exact ⟨_, (show h.get? a = some _ from x)⟩
  | met f y => exact ⟨_, (show h.get? a = some _ from x)⟩
  | ext φ => obtain ⟨_, ⟨_, e⟩, _⟩ := x; exact ⟨_, e⟩
theorem HOk.none_of {P : Program} {w : World} {H : Hp} {h : Heap} {a : Addr} (x : HOk P w H h) (e : h.get? a = none) : H a = none := by
  cases q : H a with
  | none => rfl
  | some u => obtain ⟨o, z⟩ := (x a u q).has; rw [e] at z; cases z
noncomputable def Tr (g : Heap) (H : Hp) (a : Addr) (cls : Value) (h : Heap) : Prop :=
  g.get? a = none ∧ H a = none ∧ ∃ a0 oe vs T oT ts, h.get? a = some oe ∧ (oe.cls = cls ∧ vs[0]? = some a0) ∧ oe.data = .fields vs ∧ vs[1]? = some (.ref T) ∧ g.get? T = none ∧ H T = none ∧ T ≠ a ∧ h.get? T = some oT ∧ oT.data = .fields ts ∧ ts[3]? = some .none
noncomputable def Fly (P : Program) (w : World) : CXT := fun outer H s E e s' => ∃ a cls H', e = .ref a ∧ s'.os = s.os ∧ AllBare s'.gens ∧ Un (frs outer) [] H H' s.heap s'.heap ∧ HOk P w H' s'.heap ∧ Tr s.heap H' a cls s'.heap ∧ E cls none H'
section
variable {P : Program} {w : World} {K : PySem.W.Frag} {mg : Str → Option Value} {base : Heap} {N : List Str} {qual : Str} {scope : Scope} {f : Addr} {cd : Value} {A : Around} {outer : List Env} {s₀ : Shared} {H₀ : Hp} {E₀ : XK}
  {pins : List (Addr × Obj)} {σ : St} {H : Hp} {s : Shared}
theorem lI {g h : Heap} {H H' : Hp} {fs : List Addr} {b : Addr} (u : Un fs [] H H' g h) (e : h.get? b = none) : g.get? b = none := by
  cases q : g.get? b with
  | none => rfl
  | some o => obtain ⟨o', z⟩ := u.there b o q (by simp); rw [e] at z; cases z
theorem pQ (I : Inv (bJ (Fly P w) P w K mg base N qual scope f cd A outer s₀ H₀ E₀) pins σ H s) {h' : Heap} {as : List Addr} {e : Addr} {cls a0 : Value} (ha : ∀ b ∈ as, s₀.heap.get? b = none ∧ H b = none) (he : e ∈ as)
    (L : Heap.LeftW (hideAll s.heap (as ++ frs (bJ (Fly P w) P w K mg base N qual scope f cd A outer s₀ H₀ E₀).stack)) (bJ (Fly P w) P w K mg base N qual scope f cd A outer s₀ H₀ E₀).stack e cls a0 s.heap h') (hE : E₀ cls none H) :
    Fly P w outer H₀ s₀ E₀ (.ref e) { s with heap := h' } := by
  obtain ⟨st, ff, tr, sl⟩ := L
  have hfr := I.stkFree
  have hsub : ∀ b ∈ frs outer, b ∈ frs (bJ (Fly P w) P w K mg base N qual scope f cd A outer s₀ H₀ E₀).stack := fun b hb => by
    show b ∈ frs (envOfC qual scope s₀.heap.objs.size f cd :: outer)
    unfold frs at hb ⊢
    rw [List.filterMap_cons]
    exact List.mem_cons_of_mem _ hb
  have stay : ∀ b o, s.heap.get? b = some o → b ∉ as → b ∉ frs (bJ (Fly P w) P w K mg base N qual scope f cd A outer s₀ H₀ E₀).stack → h'.get? b = some o := fun b o q n1 n2 =>
    st b o (hideAll_get _ q fun z => (List.mem_append.mp z).elim n1 n2)
  have old : ∀ b o, s₀.heap.get? b = some o → b ∉ as := fun b o q z => by rw [(ha b z).1] at q; cases q
  have notL : ∀ b o, s₀.heap.get? b = some o → b ∉ frs outer → b ∉ frs (bJ (Fly P w) P w K mg base N qual scope f cd A outer s₀ H₀ E₀).stack := fun b o q n z => by
    have := I.stkSub b z
    rcases List.mem_cons.mp this with e' | e'
    · subst e'
      exact absurd (Heap.lt_size q) (Nat.not_lt.mpr I.ok.above)
    · exact n e'
  obtain ⟨oe, vs, T, oT, ts, t1, t2, t3, t4, t5, t6, t7, t8, t9⟩ := tr
  have hTf : T ∉ frs (bJ (Fly P w) P w K mg base N qual scope f cd A outer s₀ H₀ E₀).stack := fun z => by
    obtain ⟨_, o, ho, hd⟩ := ff.mem z
    rw [t7] at ho
    cases ho
    exact hd _ t8
  have hT : s₀.heap.get? T = none ∧ H T = none := by
    by_cases hTa : T ∈ as
    · exact ha T hTa
    · have q : s.heap.get? T = none := by
        cases q : s.heap.get? T with
        | none => rfl
        | some o => rw [hideAll_get _ q (fun z => (List.mem_append.mp z).elim hTa hTf)] at t5; cases t5
      exact ⟨lI I.base q, I.hok.none_of q⟩
  refine ⟨e, cls, H, rfl, I.os, I.bare, ⟨fun b o q n hb _ => ?_, fun b o q n hb _ => ?_, fun b o q n _ => ?_, fun b o q _ => ?_, I.base.tups, I.base.frzs, I.base.tbls⟩, fun b o q => ?_, ⟨(ha e he).1, (ha e he).2, a0, oe, vs, T, oT, ts, t1, t2, t3, t4, hT.1, hT.2, t6, t7, t8, t9⟩, hE⟩
  · exact stay b o (I.base.keep b o q n hb (by exact List.not_mem_nil)) (old b o q) (notL b o q hb)
  · obtain ⟨s1, q1⟩ := I.base.slot b o q n hb (by exact List.not_mem_nil)
    obtain ⟨_, o2, q2, q3⟩ := I.stack.mem (hsub b hb)
    rw [q1] at q2
    cases q2
    obtain ⟨s2, q4⟩ := sl b _ q1 q3
    exact ⟨s2, q4⟩
  · exact I.base.free b o q n (by exact List.not_mem_nil)
  · obtain ⟨o1, q1⟩ := I.base.there b o q (by exact List.not_mem_nil)
    by_cases hb : b ∈ frs (bJ (Fly P w) P w K mg base N qual scope f cd A outer s₀ H₀ E₀).stack
    · obtain ⟨_, o2, q2, _⟩ := ff.mem hb
      exact ⟨o2, q2⟩
    · exact ⟨o1, stay b o1 q1 (old b o q) hb⟩
  · refine (I.hok b o q).stay (fun c u hc hu => ?_) (fun _ z => z) fun _ _ z => z
    have hc' : H c ≠ none := by
      rcases hc with z | z
      · rw [z, q]; exact Option.some_ne_none _
      · rw [z]; exact Option.some_ne_none _
    exact stay c u hu (fun z => hc' (ha c z).2) fun z => hc' (hfr c z)
theorem yv (I : Inv (bJ (Fly P w) P w K mg base N qual scope f cd A outer s₀ H₀ E₀) pins σ H s) {h' : Heap} {e : Addr} {cls : Value} {vs : List Value} (hx : Heap.MadeExcOf s.heap h' e cls vs) (hE : E₀ cls none H) :
    (bJ (Fly P w) P w K mg base N qual scope f cd A outer s₀ H₀ E₀).xe (.ref e) { s with heap := h' } := by
  have J : Inv (bJ (Fly P w) P w K mg base N qual scope f cd A outer s₀ H₀ E₀) pins σ H { s with heap := h' } := I.kept (t' := s.toks) hx.keeps
  obtain ⟨t, he, _, _⟩ := hx.there
  have hf : (envOfC qual scope s₀.heap.objs.size f cd).frame = some s₀.heap.objs.size := rfl
  refine wpAny_leaving_firstW (base := hideAll h' ([e] ++ frs (bJ (Fly P w) P w K mg base N qual scope f cd A outer s₀ H₀ E₀).stack)) J.ok.frames (funFrames_hide J.stack fun env hm b hb => List.mem_append_right _ (List.mem_filterMap.mpr ⟨env, hm, hb⟩)) hf he (fun b o q => of_hideAll _ q)
    (hideAll_none _ (by simp)) rfl rfl rfl fun h'' L => ?_
  exact pQ (as := [e]) J (fun b hb => by rw [List.mem_singleton.mp hb]; exact ⟨lI I.base hx.new, I.hok.none_of hx.new⟩) (by simp) L hE
theorem nB : Passes (Fly P w) (bJ (Fly P w) P w K mg base N qual scope f cd A outer s₀ H₀ E₀) E₀ := by
  intro pins σ H s e s' I hq
  obtain ⟨a, cls, H', rfl, ho, hb, u, hok, ⟨f1, f2, a0, oe, vs, T, oT, ts, t1, t2, t3, t4, t5, t5', t6, t7, t8, t9⟩, hE'⟩ := hq
  have J : Inv (bJ (Fly P w) P w K mg base N qual scope f cd A outer s₀ H₀ E₀) pins σ H' s' := I.call' (ch := []) ho u hok hb (fun b z => nomatch z)
  have hf : (envOfC qual scope s₀.heap.objs.size f cd).frame = some s₀.heap.objs.size := rfl
  have back : ∀ b, s.heap.get? b = none → s₀.heap.get? b = none := fun b q => lI I.base q
  refine wpAny_leaving_nextW (base := hideAll s'.heap ([a, T] ++ frs (bJ (Fly P w) P w K mg base N qual scope f cd A outer s₀ H₀ E₀).stack)) J.ok.frames (funFrames_hide J.stack fun env hm b hb => List.mem_append_right _ (List.mem_filterMap.mpr ⟨env, hm, hb⟩)) hf
    ⟨oe, vs, T, oT, ts, t1, t2, t3, t4, hideAll_none _ (by simp), t6, t7, t8, t9⟩ (fun b o q => of_hideAll _ q) (hideAll_none _ (by simp)) fun h'' L => ?_
  refine pQ (as := [a, T]) J (fun b hb => ?_) (by simp) L hE'
  rcases List.mem_cons.mp hb with z | z
  · rw [z]; exact ⟨back a f1, f2⟩
  · rw [List.mem_singleton.mp z]; exact ⟨back T t5, t5'⟩
end
noncomputable def Thr (X : Cx) (E : XK) : Prop := ∀ (pins : List (Addr × Obj)) (σ : St) (H : Hp) (s : Shared) (h' : Heap) (e : Addr) (cls : Value) (vs : List Value), Inv X pins σ H s → Heap.MadeExcOf s.heap h' e cls vs → E cls none H → X.xe (.ref e) { s with heap := h' }
theorem lp {P : Program} {w : World} {K : PySem.W.Frag} {mg : Str → Option Value} {base : Heap} {N : List Str} {qual : Str} {scope : Scope} {f : Addr} {cd : Value} {A : Around} {outer : List Env} {s₀ : Shared} {H₀ : Hp} {E₀ : XK} :
    Thr (bJ (Fly P w) P w K mg base N qual scope f cd A outer s₀ H₀ E₀) E₀ := fun _ _ _ _ _ _ _ _ I hx hE => yv I hx hE
noncomputable abbrev bmV : List Value := [.type "ValueError", .type "Exception", .type "BaseException", .type "object"]
structure hU (K : PySem.W.Frag) (mg : Str → Option Value) (x : Str) (C : Addr) : Prop where
  g : mg x = some (.ref C)
  q : excIn K C bmV "ValueError.__new__" = true
theorem hU.own {K : PySem.W.Frag} {mg : Str → Option Value} {x : Str} {C : Addr} {h₀ : Heap} (c : hU K mg x C) (X : K.In h₀) : OwnCls x C bmV "ValueError.__new__" mg h₀ := by
  refine ⟨c.g, ?_⟩
  have q := c.q
  unfold excIn at q
  split at q
  · rename_i dd cd sl ho
    split at q
    · rename_i C' bm k0 k1 k2 k3 n k5 hm hs
      simp only [Bool.and_eq_true, beq_iff_eq, Bool.not_eq_true'] at q
      obtain ⟨⟨⟨⟨⟨rfl, rfl⟩, hdel⟩, ht⟩, hok⟩, hni⟩ := q
      obtain ⟨nm, bs, mro, ns, qn, hd, sn, sub, ab, col, del⟩ := cd
      dsimp only at hm hdel hok hni
      subst hm hdel
      have hsl : sl = #[k0, k1, k2, k3, some (.builtin "ValueError.__new__"), k5] := by
        obtain ⟨l⟩ := sl
        simp only at hs
        rw [hs]
      subst hsl
      exact ⟨bm, ns, nm, qn, bs, hd, sn, sub, ab, col, dd, k0, k1, k2, k3, k5, _, X _ _ ho, .of_isNs (isNs_of_in X hok), nsMap_none_of_in X hok hni, tail_of_in X ht⟩
    · cases q
  · cases q
noncomputable def uE (v : Value) (E : XK) (t : TA) : TS := fun _ σ H => t σ H fun vs H1 => vs.length ≤ sizeLine ∧ E v none H1
section
variable {X : Cx} {E : XK} {x : Str} {C : Addr} {np cpos pos : Pos} {e : Expr} {es : List Expr} {t : TA}
theorem uP (hT : Thr X E) (hc : X.calm = true) (c : hU X.K X.mg x C) (hg : Gl X x) (ha : PA X (e :: es) t) (hdb : (x == ("__debug__" : Str)) = false := by decide)
    (he : starEach (e :: es) X.env = (false, eval e X.env) :: starEach es X.env := by rfl) (hpl : (backTo cpos (starEach es X.env)).any (·.1) = false := by rfl) :
    PS X (.Raise (some (.Call (.Name x np) (e :: es) [] cpos)) none pos) (uE (.ref C) E t) := by
  intro pins s σ H D I h
  obtain ⟨tl, N, nm, q, bs, hdct, sn, sub, ab, col, dd, k0, k1, k2, k3, k5, mN, hC, hN, hni, T⟩ := (c.own I.ok.mod.kin).obj
  refine wpAny_Raise_call_subT (C := C) (nm := nm) (q := q) (N := N) (bs := bs) (bm := tl) (hdct := hdct) (sn := sn) (sub := sub) (ab := ab) (col := col) (dd := dd) (k0 := k0) (k1 := k1) (k2 := k2) (k3 := k3) (k5 := k5)
    PySem.F.excBase_ValueError (mN := mN) (T.hasType PySem.F.excBase_ValueError.hasBase) (I.ok.hd hc) (by rw [he]; show (false || (backTo cpos (starEach es X.env)).any (·.1)) = false; rw [hpl]; rfl) hni (iO I hg c.g ⟨rfl, ?_⟩ hdb)
  have h := ha cpos pins s σ H _ I h
  rw [he] at h ⊢
  exact Calls.evalArgs_plain (wpAny_mono h (fun us s₂ ⟨vs, H1, I1, r, hl, hE⟩ => ⟨rfl, by rw [← r.length]; exact hl, I1.bk _ _ hC, hN.keeps I1.bk, T.keeps I1.bk, fun h' e' hm => hT pins σ H1 s₂ h' e' _ _ I1 hm hE⟩) fun _ _ y => y)
end
end L2
namespace L2
open PySem PySem.Spec PyProof.Rows PySem.W
section
variable {X : Cx} {e : Expr} {es : List Expr} {R R' : St → Hp → Prop} {pos : Pos}
noncomputable def PX (X : Cx) (e : Expr) (R : St → Hp → Prop) : Prop := ∀ (pins : List (Addr × Obj)) (s : Shared) (σ : St) (H : Hp) (Q : Value → Shared → Prop), Inv X pins σ H s → R σ H → (∀ x t s', x.length ≤ 20000 → Inv X pins σ H s' → Q (.str x t) s') → wpAny (model X.prog X.w) X.A (eval e X.env) Q X.xe s
noncomputable def PXs (X : Cx) (es : List Expr) (R : St → Hp → Prop) : Prop := ∀ (pins : List (Addr × Obj)) (s : Shared) (σ : St) (H : Hp) (Q : Value → Shared → Prop) (out : Str) (k : Nat), Inv X pins σ H s → R σ H → out.length ≤ 20000 * k → k + es.length ≤ 100 → (∀ x t s', x.length ≤ 2000000 → Inv X pins σ H s' → Q (.str x t) s') →
  wpAny (model X.prog X.w) X.A (joinParts out (evalEach es X.env)) Q X.xe s
theorem xw {x : Str} {j pos} (h : x.length ≤ 20000 := by decide +kernel) : PX X (.Constant (.str x) j pos) (fun _ _ => True) := by
  intro pins s σ H Q I _ hq
  refine thn (mm (X := X) pins s σ H (fun v H' => v = .str x ∧ H' = H) I ⟨rfl, rfl⟩) fun u s' ⟨v, H', I', r, e1, e2⟩ => ?_
  subst e1 e2
  obtain ⟨t, rfl⟩ := r
  exact hq x t s' h I'
theorem xT {te : TE} {a : Int} (he : PE X e te) (h : ∀ σ H Q, Q (.int a) H → te σ H Q) (hd : a.natAbs.log2 < 1920 := by decide) (hl : (toString a : Str).length ≤ 20000 := by decide +kernel) : PX X (.FormattedValue e (-1) none pos) (fun _ _ => True) := by
  intro pins s σ H Q I hR hq
  refine FormattedValue_plain (thn (he pins s σ H (fun v H' => H' = H ∧ v = .int a) I (h _ _ _ ⟨rfl, rfl⟩)) fun u s1 ⟨v, H', I', r, e1, e2⟩ => ?_)
  subst e1 e2
  obtain ⟨t, rfl⟩ := r
  exact wpAny_formatField_int hd (hq _ _ _ hl (I'.tok _))
theorem vd : PXs X [] (fun _ _ => True) := by
  intro pins s σ H Q out k I _ ho hk hq
  exact joinParts_nil (hq _ _ _ (by simp at hk; omega) (I.tok _)) (by simp at hk; unfold sizeLine; omega)
theorem uY (h : PX X e R) (hs : PXs X es R') (he : evalEach (e :: es) X.env = eval e X.env :: evalEach es X.env := by rfl) : PXs X (e :: es) (fun σ H => R σ H ∧ R' σ H) := by
  intro pins s σ H Q out k I hR ho hk hq
  rw [List.length_cons] at hk
  rw [he]
  refine joinParts_cons (h pins s σ H _ I hR.1 fun x t s' hx I' => ?_)
  have hl : (out ++ x).length = out.length + x.length := strLen_append ..
  refine ⟨by rw [hl]; unfold sizeLine; omega, ?_⟩
  exact hs pins s' σ H Q (out ++ x) (k + 1) I' hR.2 (by rw [hl]; omega) (by omega) hq
theorem yC {e' : Expr} (h : PXs X (e :: e' :: es) R) (hl : (e :: e' :: es).length ≤ 100 := by simp) : PE X (.JoinedStr (e :: e' :: es) pos) (fun σ H Q => R σ H ∧ ∀ x : Str, x.length ≤ 2000000 → Q (.str x) H) := by
  intro pins s σ H Q I ⟨hR, hq⟩
  exact JoinedStr_many (h pins s σ H _ Str.empty 0 I hR (by decide) (by omega) fun x t s' hx I' => ⟨.str x, H, I', ⟨t, rfl⟩, hq x hx⟩)
end
end L2
namespace L2
open PySem PySem.Spec PyProof.Rows PySem.W
section
variable {X : Cx} {pins : List (Addr × Obj)} {σ : St} {H H' : Hp} {s : Shared} {h' : Heap}
structure Off (X : Cx) (pins : List (Addr × Obj)) (b : Addr) : Prop where
  s0 : X.s₀.heap.get? b = none
  loc : b ≠ X.env.locals
  cell : ∀ x c, X.env.cells.lookup x = some c → c ≠ b
  pin : ∀ p ∈ X.pn ++ pins, p.1 ≠ b
theorem Off.of {b : Addr} (I : Inv X pins σ H s) (he : X.ex = []) (e : s.heap.get? b = none) : Off X pins b := by
  refine ⟨lI (he ▸ I.base) e, ?_, ?_, ?_⟩
  · rintro rfl
    obtain ⟨m, ⟨o, _, _, ho, _⟩, _⟩ := I.loc
    rw [e] at ho; cases ho
  · rintro x c hc rfl
    obtain ⟨v, o, ho, _⟩ := I.cell x c hc
    rw [e] at ho; cases ho
  · rintro p hp rfl
    have := (I.pin p hp).1
    rw [e] at this; cases this
theorem Inv.stepO {ch : List Addr} (I : Inv X pins σ H s) (hch : ∀ b ∈ ch, Off X pins b)
    (keep : ∀ b o, b ≠ X.env.locals → b ∉ X.fs → b ∉ ch → s.heap.get? b = some o → H b = none → h'.get? b = some o)
    (slot : ∀ b o, b ≠ X.env.locals → b ∈ X.fs → b ∉ ch → s.heap.get? b = some o → H b = none → ∃ sl, h'.get? b = some { o with slots := sl })
    (there : ∀ b o, b ∉ ch → s.heap.get? b = some o → ∃ o', h'.get? b = some o')
    (ns : ∀ m, s.heap.Ns X.env.locals m → h'.Ns X.env.locals m) (hok : HOk X.prog X.w H h') : Inv X pins σ H { s with heap := h' } := by
  have neL : ∀ b o, X.s₀.heap.get? b = some o → b ≠ X.env.locals := fun b o e => Nat.ne_of_lt (Nat.lt_of_lt_of_le (Heap.lt_size e) I.ok.above)
  have neC : ∀ b o, X.s₀.heap.get? b = some o → b ∉ ch := fun b o e hb => by rw [(hch b hb).s0] at e; cases e
  have cellK : ∀ x c, X.env.cells.lookup x = some c → ∀ v, s.heap.IsCell c v → h'.IsCell c v := fun x c e v ⟨o, ho, hd⟩ => by
    have nch : c ∉ ch := fun z => (hch c z).cell x c e rfl
    by_cases hc : c ∈ X.fs
    · obtain ⟨sl, q⟩ := slot c o (I.cne x c e) hc nch ho (I.freeC x c e)
      exact ⟨_, q, hd⟩
    · exact ⟨o, keep c o (I.cne x c e) hc nch ho (I.freeC x c e), hd⟩
  refine ⟨I.ok, I.os, I.bare, ⟨fun b o e n hb hx => ?_, fun b o e n hb hx => ?_, I.base.free, fun b o e hx => ?_, I.base.tups, I.base.frzs, I.base.tbls⟩, ?_, fun x c e => ?_, I.free, I.freeC, fun p hp => ?_, hok, I.len⟩
  · exact keep b o (neL b o e) hb (neC b o e) (I.base.keep b o e n hb hx) (I.base.free b o e n hx)
  · obtain ⟨sl, e1⟩ := I.base.slot b o e n hb hx
    obtain ⟨sl', e2⟩ := slot b _ (neL b o e) hb (neC b o e) e1 (I.base.free b o e n hx)
    exact ⟨sl', e2⟩
  · obtain ⟨o', e1⟩ := I.base.there b o e hx
    exact there b o' (neC b o e) e1
  · obtain ⟨m, hn, hl⟩ := I.loc
    refine ⟨m, ns m hn, fun i x v e1 e2 e3 => ?_⟩
    obtain ⟨u, r, l⟩ := hl i x v e1 e2 e3
    refine ⟨u, r, ?_⟩
    rcases l with l | ⟨k, c, e, z⟩
    · exact .inl l
    · exact .inr ⟨k, c, e, cellK x c e _ z⟩
  · obtain ⟨v, z⟩ := I.cell x c e
    exact ⟨v, cellK x c e v z⟩
  · obtain ⟨e, n, ne, nf, d⟩ := I.pin p hp
    have nch : p.1 ∉ ch := fun z => (hch p.1 z).pin p hp rfl
    exact ⟨keep p.1 p.2 ne nf nch e n, n, ne, nf, d⟩
theorem Inv.fsStk (I : Inv X pins σ H s) : ∀ b ∈ X.fs, b ∈ frs X.stack := fun b hb => by
  rcases I.ok.stk with e | ⟨e, _⟩
  · rw [e]; exact hb
  · rw [e]
    unfold frs
    rw [List.filterMap_cons]
    split
    · exact hb
    · exact List.mem_cons_of_mem _ hb
theorem Inv.flown (I : Inv X pins σ H s) {as : List Addr} (ha : ∀ b ∈ as, Off X pins b ∧ H b = none) (st : (hideAll s.heap (as ++ frs X.stack)).StaysIn h') (up : s.heap.UpToSlots h') : Inv X pins σ H { s with heap := h' } := by
  have stay : ∀ b o, s.heap.get? b = some o → b ∉ as → b ∉ frs X.stack → h'.get? b = some o := fun b o q n1 n2 => st b o (hideAll_get _ q fun z => (List.mem_append.mp z).elim n1 n2)
  have fr : ∀ b o, s.heap.get? b = some o → b ∈ frs X.stack → ∃ sl, h'.get? b = some { o with slots := sl } := fun b o q hb => by
    obtain ⟨_, o2, q2, q3⟩ := I.stack.mem hb
    rw [q] at q2
    cases q2
    exact up b o q q3
  refine I.stepO (ch := as) (fun b hb => (ha b hb).1) (fun b o n1 n2 n3 q _ => ?_) (fun b o _ hb _ q _ => fr b o q (I.fsStk b hb)) (fun b o n q => ?_) (fun m hm => up.ns hm) (fun b o q => ?_)
  · exact stay b o q n3 fun z => (List.mem_cons.mp (I.stkSub b z)).elim n1 n2
  · by_cases hb : b ∈ frs X.stack
    · obtain ⟨sl, z⟩ := fr b o q hb
      exact ⟨_, z⟩
    · exact ⟨o, stay b o q n hb⟩
  · refine (I.hok b o q).stay (fun c u hc hu => ?_) (fun _ z => z) fun _ _ z => z
    have hc' : H c ≠ none := by
      rcases hc with z | z
      · rw [z, q]; exact Option.some_ne_none _
      · rw [z]; exact Option.some_ne_none _
    exact stay c u hu (fun z => hc' (ha c z).2) fun z => hc' (I.stkFree c z)
theorem Inv.track {a : Addr} {o : HO} (I : Inv X pins σ H s) (ha : Off X pins a) (hn : H a = none) (hfs : a ∉ X.fs) (ok : bL X.prog X.w (upd H a o) s.heap a o) : Inv X pins σ (upd H a o) s := by
  have ne : ∀ b, b ≠ a → upd H a o b = H b := fun b hb => aD hb
  refine ⟨I.ok, I.os, I.bare, ⟨I.base.keep, I.base.slot, fun b u q n hx => ?_, I.base.there, fun b xs q => ?_, fun b u xs q => ?_, fun b ps q => ?_⟩, I.loc, I.cell, ?_, fun x c e => ?_, fun p hp => ?_, fun b u q => ?_, I.len⟩
  · rw [ne b (by rintro rfl; rw [ha.s0] at q; cases q)]; exact I.base.free b u q n hx
  · have := I.base.tups b xs q
    rw [ne b (cz this hn)]; exact this
  · have := I.base.frzs b u xs q
    rw [ne b (cz this hn)]; exact this
  · obtain ⟨more, z⟩ := I.base.tbls b ps q
    exact ⟨more, by rw [ne b (cz z hn)]; exact z⟩
  · rw [ne _ (Ne.symm ha.loc)]; exact I.free
  · rw [ne _ (ha.cell x c e)]; exact I.freeC x c e
  · obtain ⟨e1, n, e3, e4, e5⟩ := I.pin p hp
    exact ⟨e1, by rw [ne _ (ha.pin p hp)]; exact n, e3, e4, e5⟩
  · by_cases hb : b = a
    · subst hb
      rw [aT] at q
      cases q
      exact ok
    · rw [ne b hb] at q
      exact (I.hok b u q).stay (fun _ _ _ z => z) (fun c z => by rw [ne c (cz z hn)]; exact z) fun c xs z => by rw [ne c (cz z hn)]; exact z
theorem mz {M : Model} {A : Around} {E : Value → Shared → Prop} {i : Nat} {x : Str} {pos : Pos} {Q : Unit → Shared → Prop} (I : Inv X pins σ H s) (hN : X.N.Nodup) (hi : X.N[i]? = some x) (hk : X.env.scope.names.lookup x = some .local)
    (h : ∀ s', Inv X pins (σ.set i none) H s' → Q () s') : wpAny M A (do bindName X.env x .none; unbindBehindTheSuite X.env x pos) Q E s := by
  obtain ⟨m, hn, hl⟩ := id I.loc
  have hcls : (X.env.scope.kind == .class || (X.env.scope.kind == .module && X.env.locals != X.env.globals)) = false := by rw [I.ok.kind]; rfl
  have hiσ : i < σ.length := by rw [I.len]; exact (List.getElem?_eq_some_iff.mp hi).1
  have cne := I.cne
  obtain ⟨oL, _, _, hoL, _⟩ := id hn
  refine wpAny_nameGoes_keeps hk hn hcls fun h' v hn' hs => ?_
  have hok : HOk X.prog X.w H h' := fun b ob e => by
    refine (I.hok b ob e).stay (fun c w' hc q => (hs.2 c ?_).trans q) (fun _ q => q) fun _ _ q => q
    rintro rfl
    rcases hc with rfl | hc
    · rw [I.free] at e; cases e
    · rw [I.free] at hc; cases hc
  refine h { s with heap := h', toks := s.toks + 1 } ⟨I.ok, I.os, I.bare, ⟨fun b o e n hb hx => ?_, fun b o e n hb hx => ?_, I.base.free, fun b o e hx => ?_, I.base.tups, I.base.frzs, I.base.tbls⟩, ⟨_, hn', fun j y v' e1 e2 e3 => ?_⟩, fun y c e => ?_, I.free, I.freeC, fun p hp => ?_, hok, by simpa using I.len⟩
  · exact (hs.2 b (Nat.ne_of_lt (Nat.lt_of_lt_of_le (Heap.lt_size e) I.ok.above))).trans (I.base.keep b o e n hb hx)
  · obtain ⟨sl, e1⟩ := I.base.slot b o e n hb hx
    exact ⟨sl, (hs.2 b (Nat.ne_of_lt (Nat.lt_of_lt_of_le (Heap.lt_size e) I.ok.above))).trans e1⟩
  · obtain ⟨o', e1⟩ := I.base.there b o e hx
    exact ⟨o', (hs.2 b (Nat.ne_of_lt (Nat.lt_of_lt_of_le (Heap.lt_size e) I.ok.above))).trans e1⟩
  · by_cases hj : j = i
    · subst hj
      rw [List.getElem?_set_self hiσ] at e2
      cases e2
    · rw [List.getElem?_set_ne (Ne.symm hj)] at e2
      obtain ⟨u', r', q⟩ := hl j y v' e1 e2 e3
      refine ⟨u', r', ?_⟩
      rcases q with ⟨k, e⟩ | ⟨k, c, e, z⟩
      · refine .inl ⟨k, ?_⟩
        have : y ≠ x := fun e => hj (pk hN e1 (e ▸ hi))
        simp [this, e]
      · exact .inr ⟨k, c, e, z.sameBut hs (cne y c e)⟩
  · obtain ⟨w', z⟩ := I.cell y c e
    exact ⟨w', z.sameBut hs (cne y c e)⟩
  · obtain ⟨e, n, ne, nf, d⟩ := I.pin p hp
    exact ⟨(hs.2 p.1 ne).trans e, n, ne, nf, d⟩
noncomputable def du (X : Cx) (pins : List (Addr × Obj)) (H : Hp) (a : Addr) (cls : Value) (h : Heap) : Prop :=
  (Off X pins a ∧ H a = none) ∧ ∃ a0 oe vs T oT ts, h.get? a = some oe ∧ (oe.cls = cls ∧ vs[0]? = some a0) ∧ oe.data = .fields vs ∧ vs[1]? = some (.ref T) ∧ (Off X pins T ∧ H T = none) ∧ T ≠ a ∧ h.get? T = some oT ∧ oT.data = .fields ts ∧ ts[3]? = some .none
noncomputable def PEX (X : Cx) (e : Expr) (t : St → Hp → VK → XK → Prop) : Prop := ∀ (pins : List (Addr × Obj)) (s : Shared) (σ : St) (H : Hp) (Q : VK) (E : XK) (G : Value → Shared → Prop), Inv X pins σ H s → t σ H Q E →
  (∀ a cls H' s', Inv X pins σ H' s' → du X pins H' a cls s'.heap → E cls none H' → G (.ref a) s') → wpAny (model X.prog X.w) X.A (eval e X.env) (EP X pins σ Q) G s
theorem PA.any {es : List Expr} {t : TA} (h : PA X.nox es t) {pos : Pos} {Q : List V → Hp → Prop} {G : Value → Shared → Prop} (I : Inv X pins σ H s) (hw : t σ H Q) : wpAny (model X.prog X.w) X.A (spliced (backTo pos (starEach es X.env))) (AP X pins σ Q) G s :=
  wpAny_mono (h pos pins s σ H Q (I.wish _) hw) (fun _ _ ⟨vs, H', I', r, q⟩ => ⟨vs, H', I'.unwish, r, q⟩) fun _ _ z => False.elim z
noncomputable abbrev gJ (X : Cx) (a : Addr) : Cx := { X with A := X.A.mark (some (.ref a)), calm := false, xe := fun _ _ => False }
theorem Inv.hand (I : Inv X pins σ H s) (a : Addr) : Inv (gJ X a) pins σ H s :=
  ⟨⟨I.ok.mod, I.ok.kind, I.ok.glob, I.ok.blt, I.ok.above, I.ok.inj, I.ok.has, I.ok.cab, (fun z => by cases z), I.ok.frames, I.ok.stk, I.ok.exf, I.ok.bs, I.ok.bsz, I.ok.noex, I.ok.exfs, I.ok.funs, I.ok.frf⟩, I.os, I.bare, I.base, I.loc, I.cell, I.free, I.freeC, I.pin, I.hok, I.len⟩
theorem Inv.unhand {a : Addr} (ok : X.Ok) (I : Inv (gJ X a) pins σ H s) : Inv X pins σ H s := ⟨ok, I.os, I.bare, I.base, I.loc, I.cell, I.free, I.freeC, I.pin, I.hok, I.len⟩
theorem wA {P : Program} {w : World} {C a : Addr} {H : Hp} {h : Heap} {o : Obj} (e : h.get? a = some o) (hc : o.cls = .ref C) : bL P w H h a (.ext (dE C a)) :=
  ⟨⟨o, e, hc⟩, ⟨o, e⟩, fun h1 h2 ⟨o1, q1, q2⟩ k => ⟨o1, k o1 q1, q2⟩⟩
theorem du.fly {a : Addr} {cls : Value} (I : Inv X pins σ H s) (h : du X pins H a cls s.heap) : ∃ a0 T, (Off X pins T ∧ H T = none) ∧ Heap.FlyingW (hideAll s.heap ([a, T] ++ frs X.stack)) X.stack a cls a0 s.heap := by
  obtain ⟨_, a0, oe, vs, T, oT, ts, t1, t2, t3, t4, t5, t6, t7, t8, t9⟩ := h
  exact ⟨a0, T, t5, fun b o q => of_hideAll _ q, hideAll_none _ (by simp), funFrames_hide I.stack fun env hm b hb => List.mem_append_right _ (List.mem_filterMap.mpr ⟨env, hm, hb⟩), oe, vs, T, oT, ts, t1, t2, t3, t4, hideAll_none _ (by simp), t6, t7, t8, t9⟩
theorem du.flown {a T : Addr} {cls a0 : Value} (I : Inv X pins σ H s) (ha : Off X pins a ∧ H a = none) (hT : Off X pins T ∧ H T = none) (hf : Heap.FlyingW (hideAll s.heap ([a, T] ++ frs X.stack)) X.stack a cls a0 h') (up : s.heap.UpToSlots h') (hex : X.ex = []) :
    Inv X pins σ H { s with heap := h' } ∧ du X pins H a cls h' := by
  have J : Inv X pins σ H { s with heap := h' } := I.flown (as := [a, T]) (fun b hb => by
    rcases List.mem_cons.mp hb with z | z
    · rw [z]; exact ha
    · rw [List.mem_singleton.mp z]; exact hT) hf.1 up
  refine ⟨J, ha, ?_⟩
  obtain ⟨_, _, ff, oe, vs, T', oT, ts, t1, t2, t3, t4, t5, t6, t7, t8, t9⟩ := hf
  refine ⟨a0, oe, vs, T', oT, ts, t1, t2, t3, t4, ?_, t6, t7, t8, t9⟩
  have hTf : T' ∉ frs X.stack := fun z => by
    obtain ⟨_, o, ho, hd⟩ := ff.mem z
    rw [t7] at ho
    cases ho
    exact hd _ t8
  by_cases hz : T' ∈ [a, T]
  · rcases List.mem_cons.mp hz with z | z
    · rw [z]; exact ha
    · rw [List.mem_singleton.mp z]; exact hT
  · have q : s.heap.get? T' = none := by
      cases q : s.heap.get? T' with
      | none => rfl
      | some o => rw [hideAll_get _ q (fun z => (List.mem_append.mp z).elim hz hTf)] at t5; cases t5
    exact ⟨.of I hex q, I.hok.none_of q⟩
theorem du.ty {M : Model} {a : Addr} {cls : Value} {h : Heap} (x : du X pins H a cls h) : Looks M h (typeOf (.ref a)) cls := by
  obtain ⟨_, a0, oe, vs, T, oT, ts, t1, t2, _⟩ := x
  obtain ⟨rfl, _⟩ := t2
  exact (Looks.ld t1).andThen .now
theorem vM {a D : Addr} {cls : Value} {x : Str} {np pos : Pos} {name : Option Str} {b₀ : Stmt} {suite : List Stmt} {rest : List ExceptHandler} {Q : Flow → Shared → Prop} (I : Inv X pins σ H s) (h : du X pins H a cls s.heap) (hg : Gl X x) (hm : X.mg x = some (.ref D)) (hx : exmOne X.K cls (.ref D) = some false)
    (k : wpAny (model X.prog X.w) X.A (handleBy (.ref a) X.env rest) Q X.xe s) (hdb : (x == ("__debug__" : Str)) = false := by decide) :
    wpAny (model X.prog X.w) X.A (handleBy (.ref a) X.env (.ExceptHandler (some (.Name x np)) name (b₀ :: suite) pos :: rest)) Q X.xe s := by
  refine wpAny_handleBy_cons (codeAny_handlers_test (iO (X := gJ X a) (I.hand a) hg hm ?_ hdb)) (by intro q; cases q)
  exact exm_one (I.hand a).kIn h.ty hx _ _ _ s (fun _ _ e => e) k
noncomputable abbrev n6 (i : Nat) (B : Ends) : Ends := { nx := fun σ H => B.nx (σ.set i none) H, rt := B.rt, bk := fun σ H => B.bk (σ.set i none) H, ct := fun σ H => B.ct (σ.set i none) H }
theorem xP {a C D : Addr} {i : Nat} {n x : Str} {np pos : Pos} {b₀ : Stmt} {suite : List Stmt} {rest : List ExceptHandler} {B : Ends} {t : TS} (I : Inv X pins σ H s) (h : du X pins H a (.ref C) s.heap) (hex : X.ex = []) (hfs : a ∉ X.fs) (hg : Gl X x) (hm : X.mg x = some (.ref D)) (hx : exmOne X.K (.ref C) (.ref D) = some true)
    (hN : X.N.Nodup) (hi : X.N[i]? = some n) (hk : X.env.scope.names.lookup n = some .local) (hs : PSs (gJ X a) (b₀ :: suite) t) (ht : t (n6 i B) (σ.set i (some (.ref a))) (upd H a (.ext (dE C a)))) (hdb : (x == ("__debug__" : Str)) = false := by decide) :
    wpAny (model X.prog X.w) X.A (handleBy (.ref a) X.env (.ExceptHandler (some (.Name x np)) (some n) (b₀ :: suite) pos :: rest)) (SP X pins B) X.xe s := by
  refine wpAny_handleBy_cons (codeAny_handlers_test (iO (X := gJ X a) (I.hand a) hg hm ?_ hdb)) (by intro q; cases q)
  refine exm_one (I.hand a).kIn h.ty hx _ _ _ s (fun _ _ e => e) (codeAny_handlers_suite_as ?_)
  obtain ⟨a0, T, hT, hf⟩ := h.fly I
  refine lands_againW hf fun h6 hf6 up => ?_
  obtain ⟨J, hJ⟩ := du.flown I h.1 hT hf6 up hex
  obtain ⟨oe, ws, hoe, hoec, _, _⟩ := hf6.first
  have J2 := J.track h.1.1 h.1.2 hfs (wA hoe hoec)
  refine px (X := gJ X a) (v := .ref a) (J2.hand a) hN hi (.inl hk) rfl (fun s7 J7 => ?_) (.inr hk)
  refine wpAny_mono (hs pins _ _ _ (n6 i B) J7 ht) (fun f s4 q => ?_) fun _ _ z => z.elim
  cases f with
  | next => obtain ⟨σ', H', I', q⟩ := q; exact mz (I'.unhand I.ok) hN hi hk fun s' I2 => ⟨_, H', I2, q⟩
  | brk => obtain ⟨σ', H', I', q⟩ := q; exact mz (I'.unhand I.ok) hN hi hk fun s' I2 => ⟨_, H', I2, q⟩
  | cont => obtain ⟨σ', H', I', q⟩ := q; exact mz (I'.unhand I.ok) hN hi hk fun s' I2 => ⟨_, H', I2, q⟩
  | ret u => obtain ⟨v, σ', H', I', r, q⟩ := q; exact mz (I'.unhand I.ok) hN hi hk fun s' I2 => ⟨v, _, H', I2, r, q⟩
theorem z9 {a : Addr} {cls : Value} {hs : List ExceptHandler} {Q : Flow → Shared → Prop} (I : Inv X pins σ H s) (h : du X pins H a cls s.heap) (hex : X.ex = []) (hstk : X.stack = X.env :: X.outer) (hfr : X.env.frame = some X.env.locals)
    (k : ∀ s', Inv X pins σ H s' → du X pins H a cls s'.heap → wpAny (model X.prog X.w) X.A (handleBy (.ref a) X.env hs) Q X.xe s') :
    wpAny (model X.prog X.w) X.A (noteFrame (.ref a) X.env) (fun _ s₂ => wpAny (model X.prog X.w) X.A (setFlight (.ref a) none) (fun _ s₃ => wpAny (model X.prog X.w) X.A (handleBy (.ref a) X.env hs) Q X.xe s₃) X.xe s₂) X.xe s := by
  obtain ⟨a0, T, hT, hf⟩ := h.fly I
  rw [hstk] at hf
  refine wpAny_looks_onW (by rw [← hstk]; exact I.ok.frames) hfr hf fun h4 hh4 up4 => ?_
  refine wpAny_landsW hh4 fun h5 hf5 up5 => ?_
  rw [← hstk] at hf5
  obtain ⟨J, hJ⟩ := du.flown I h.1 hT hf5 (up4.trans up5) hex
  exact k _ J hJ
end
end L2
namespace L2
open PySem PySem.Spec PyProof.Rows PySem.W
section
variable {X : Cx} {pins : List (Addr × Obj)} {σ : St} {H H' : Hp} {s : Shared} {pos : Pos} {e : Expr} {es : List Expr}
theorem Off.nfs {a : Addr} (I : Inv X pins σ H s) (h : Off X pins a) : a ∉ X.fs := fun z => by
  obtain ⟨_, o, ho, _⟩ := I.ok.funs.mem z
  rw [h.s0] at ho; cases ho
noncomputable abbrev TX := St → Hp → VK → XK → Prop
noncomputable abbrev HDt := Value → Ends → St → Hp → Prop
noncomputable def HD (X : Cx) (hs : List ExceptHandler) (hd : HDt) : Prop := ∀ (pins : List (Addr × Obj)) (s : Shared) (σ : St) (H : Hp) (B : Ends) (a : Addr) (cls : Value), Inv X pins σ H s → du X pins H a cls s.heap → hd cls B σ H → wpAny (model X.prog X.w) X.A (handleBy (.ref a) X.env hs) (SP X pins B) X.xe s
theorem uC : HD X [] (fun _ _ _ _ => False) := fun _ _ _ _ _ _ _ _ _ h => h.elim
theorem Bj {D : Addr} {i : Nat} {n x : Str} {np hpos : Pos} {b₀ : Stmt} {suite : List Stmt} {rest : List ExceptHandler} {t : Addr → TS} {hd : HDt} (hex : X.ex = []) (hN : X.N.Nodup) (hi : X.N[i]? = some n) (hk : X.env.scope.names.lookup n = some .local) (hg : Gl X x) (hm : X.mg x = some (.ref D)) (hs : ∀ a, PSs (gJ X a) (b₀ :: suite) (t a)) (hr : HD X rest hd)
    (hdb : (x == ("__debug__" : Str)) = false := by decide) :
    HD X (.ExceptHandler (some (.Name x np)) (some n) (b₀ :: suite) hpos :: rest) (fun cls B σ H => (∃ C, cls = .ref C ∧ exmOne X.K cls (.ref D) = some true ∧ ∀ a, H a = none → t a (n6 i B) (σ.set i (some (.ref a))) (upd H a (.ext (dE C a)))) ∨ (exmOne X.K cls (.ref D) = some false ∧ hd cls B σ H)) := by
  intro pins s σ H B a cls I hf h
  rcases h with ⟨C, rfl, hx, ht⟩ | ⟨hx, h⟩
  · exact xP I hf hex (hf.1.1.nfs I) hg hm hx hN hi hk (hs a) (ht a hf.1.2) hdb
  · exact vM I hf hg hm hx (hr pins s σ H B a cls I hf h) hdb
theorem yk {t : TX} {hd : HDt} {p1 : Pos} {h₀ : ExceptHandler} {hs : List ExceptHandler} (hex : X.ex = []) (hstk : X.stack = X.env :: X.outer) (hfr : X.env.frame = some X.env.locals) (he : PEX X e t) (hh : HD X (h₀ :: hs) hd) :
    PS X (.Try [.Return (some e) p1] (h₀ :: hs) [] [] pos) (fun B σ H => t σ H B.rt (fun cls _ H' => hd cls B σ H')) := by
  intro pins s σ H B I h
  refine wpAny_Try_except (wpAny_execs_cons (wpAny_Return_some (thn (he pins s σ H _ _ _ I h fun a cls H' s' J hfl hE => ?_) fun v s1 ⟨x, H1, I1, r1, q1⟩ => ?_)))
  · exact z9 J hfl hex hstk hfr fun s'' J'' hfl'' => hh pins s'' σ H' B a cls J'' hfl'' hE
  · exact ⟨x, σ, H1, I1, r1, q1⟩
noncomputable abbrev TAX := St → Hp → (List V → Hp → Prop) → XK → Prop
noncomputable def PAX (X : Cx) (es : List Expr) (t : TAX) : Prop := ∀ (pos : Pos) (pins : List (Addr × Obj)) (s : Shared) (σ : St) (H : Hp) (Q : List V → Hp → Prop) (E : XK) (G : Value → Shared → Prop), Inv X pins σ H s → t σ H Q E →
  (∀ a cls H' s', Inv X pins σ H' s' → du X pins H' a cls s'.heap → E cls none H' → G (.ref a) s') → wpAny (model X.prog X.w) X.A (spliced (backTo pos (starEach es X.env))) (AP X pins σ Q) G s
theorem uD {t : TX} (he : PEX X e t) (hs : starEach [e] X.env = (false, eval e X.env) :: starEach [] X.env := by rfl) : PAX X [e] (fun σ H Q E => t σ H (fun v H1 => Q [v] H1) E) := by
  intro pos pins s σ H Q E G I h hG
  rw [hs]
  show wpAny _ _ (spliced ((false, eval e X.env) :: backTo pos (starEach [] X.env))) _ _ s
  refine Calls.spliced_cons (thn (he pins s σ H _ _ _ I h hG) fun u s1 ⟨x, H1, I1, r1, q1⟩ => ?_)
  exact Calls.spliced_nil ⟨[x], H1, I1, .cons r1 .nil, q1⟩
theorem Ax {te : TE} {t : TAX} (ha : PE X.nox e te) (hr : PAX X es t) (hs : starEach (e :: es) X.env = (false, eval e X.env) :: starEach es X.env := by rfl) : PAX X (e :: es) (fun σ H Q E => te σ H fun v H1 => t σ H1 (fun vs H2 => Q (v :: vs) H2) E) := by
  intro pos pins s σ H Q E G I h hG
  rw [hs]
  show wpAny _ _ (spliced ((false, eval e X.env) :: backTo pos (starEach es X.env))) _ _ s
  refine Calls.spliced_cons (wpAny_mono (ha pins s σ H _ (I.wish _) h) (fun u s1 ⟨x, H1, I1, r1, q1⟩ => ?_) fun _ _ z => False.elim z)
  exact thn (hr pos pins s1 σ H1 _ _ _ I1.unwish q1 hG) fun us s2 ⟨xs, H2, I2, r2, q2⟩ => ⟨x :: xs, H2, I2, .cons r1 r2, q2⟩
theorem zm {x1} {t : TAX} (h : PAX X es t) : PEX X (.Tuple es x1 pos) (fun σ H Q E => t σ H (fun xs H1 => xs.length ≤ sizeLine ∧ ∀ p, H1 p = none → Q (.ref p) (upd H1 p (.tup xs))) E) := by
  intro pins s σ H Q E G I hq hG
  refine wpAny_Tuple_spliced (thn (h pos pins s σ H _ _ _ I hq hG) fun us s1 ⟨xs, H1, I1, r, z, q⟩ => ⟨by rw [← r.length]; exact z, ?_⟩)
  have hf : H1 s1.heap.objs.size = none := I1.hok.fresh (Nat.le_refl _)
  refine ⟨.ref s1.heap.objs.size, upd H1 s1.heap.objs.size (.tup xs), I1.laid (t' := s1.toks) (fun b u e => Heap.get?_push_of_some _ e) (Nat.le_refl _) ?_, rfl, q _ hf⟩
  exact ⟨z, us, r, ⟨_, Heap.get?_push_size _ rfl, rfl, _, rfl⟩⟩
end
end L2
namespace L2
open PySem PySem.Spec PyProof.Rows PySem.W PySem.Builtin PySem.Builtin.ObjectAttr PySem.Builtin.Getset_descriptor
noncomputable def jM (K : Frag) (C : Addr) : Bool := (clsIn K C).isSome && findIn K (.ref C) "__getattribute__" == some (some (.builtin "BaseException.__getattribute__")) && findIn K (.ref C) "__getattr__" == some none && findIn K (.ref C) "__class__" == some (some (.builtin "object.__class__"))
  && specialIn K (.builtin "object.__class__") "__get__" == some (some (.builtin "getset_descriptor.__get__")) && mroIn K C (.type "object") == some true && mroIn K C (.type "BaseException") == some true
structure gC (K : Frag) (C : Addr) : Prop where
  cl : (clsIn K C).isSome = true
  ga : findIn K (.ref C) "__getattribute__" = some (some (.builtin "BaseException.__getattribute__"))
  gt : findIn K (.ref C) "__getattr__" = some none
  ca : findIn K (.ref C) "__class__" = some (some (.builtin "object.__class__"))
  gs : specialIn K (.builtin "object.__class__") "__get__" = some (some (.builtin "getset_descriptor.__get__"))
  ob : mroIn K C (.type "object") = some true
  be : mroIn K C (.type "BaseException") = some true
theorem gC.of {K : Frag} {C : Addr} (h : jM K C = true) : gC K C := by
  unfold jM at h
  simp only [Bool.and_eq_true, beq_iff_eq] at h
  obtain ⟨⟨⟨⟨⟨⟨h1, h2⟩, h3⟩, h4⟩, h5⟩, h6⟩, h7⟩ := h
  exact ⟨h1, h2, h3, h4, h5, h6, h7⟩
section
variable {prog : Program} {w : World} {A : Around} {E : Value → Shared → Prop} {h : Heap} {g : Array GenState} {d : Drawn} {t : Nat} {os : OsState} {K : Frag} {a C : Addr}
theorem dE.ty {M : Model} (p : dE C a h) : Looks M h (typeOf (.ref a)) (.ref C) := by
  obtain ⟨o, h1, h2⟩ := p
  exact h2 ▸ (Looks.ld h1).andThen .now
theorem yc {tp : Value} {R : Result → Shared → Prop} (X : K.In h) (p : dE C a h) (k : gC K C) (hR : R (.ok (.ret (.ref C))) ⟨h, g, d, t, os⟩) :
    codeAny (model prog w) A (.call (.builtin "getset_descriptor.__get__") ⟨[.builtin "object.__class__", .ref a, tp], []⟩) R ⟨h, g, d, t, os⟩ := by
  have q0 := p.ty (M := model prog w)
  have q1 := looks_mroIn (M := model prog w) X k.ob
  apply codeAny_call_builtin KF.slot_gs.plain KF.entry_gs
  refine KF.slot_gs.check _ _ _ _ _ _ _ _ KF.type_class (KF.args_gs _ _ _) ?_
  (unfold Builtin.«getset_descriptor.__get__» descrGet; rw [dga_obj]; refine wpAny_bind (wpAny_pure ?_))
  (unfold descrGetter descrCheckInstance; unfold descrNameAndClass isInstance; simp only [KF.owner_class]; repeat lk)
  constructor
  · exact Code.quiet_builtin _ (by decide +kernel)
  apply codeAny_builtin KF.entry_class
  (unfold Builtin.«object.__class__»; unfold shownTypeOf; repeat lk)
  exact hR
theorem zQ {tk : Tok} {Q : Fin → Shared → Prop} (X : K.In h) (p : dE C a h) (k : gC K C) (hq : Q (.done (.ret (.ref C))) ⟨h, g, d, t, os⟩) :
    wpAny (model prog w) A (Builtin.«object.__getattribute__» ⟨[.ref a, .str "__class__" tk], []⟩) Q E ⟨h, g, d, t, os⟩ := by
  have q0 := p.ty (M := model prog w)
  have q1 := looks_findIn (M := model prog w) X k.ca
  have q2 := looks_specialIn (M := model prog w) X k.gs
  unfold Builtin.«object.__getattribute__»
  repeat (any_goals (first | assumption | (with_reducible refine wpAny_call (yc X p k ?_)) | lk | wp_step))
theorem v9 {tk : Tok} {R : Result → Shared → Prop} (X : K.In h) (p : dE C a h) (k : gC K C) (hq : R (.ok (.ret (.ref C))) ⟨h, g, d, t, os⟩) :
    codeAny (model prog w) A (.call (.builtin "BaseException.__getattribute__") ⟨[.ref a, .str "__class__" tk], []⟩) R ⟨h, g, d, t, os⟩ := by
  refine codeAny_call_builtin PySem.F.attr_ValueError.ga.plain PySem.F.entry_bexc_ga ?_
  have z1 : builtinKind "BaseException.__getattribute__" = some .slot := by decide +kernel
  have z2 : splitId "BaseException.__getattribute__" = some ("BaseException", "__getattribute__") := by decide +kernel
  have q0 := p.ty (M := model prog w)
  have q1 := looks_mroIn (M := model prog w) X k.be
  have z3 := PySem.F.args_bexc_ga (.ref a) (.str "__class__" tk)
  simp only [checkBuiltinCall, z1, z2]
  refine wpAny_bind ?_
  unfold isInstance
  repeat (any_goals (first | assumption | (with_reducible refine zQ X p k ?_) | lk | wp_step))
theorem yb {Q : Option Value → Shared → Prop} (X : K.In h) (p : dE C a h) (k : gC K C) (hq : Q (some (.ref C)) ⟨h, g, d, t + 1, os⟩) : wpAny (model prog w) A (getAttr? (.ref a) "__class__") Q E ⟨h, g, d, t, os⟩ := by
  have q0 := p.ty (M := model prog w)
  have q1 := looks_findIn (M := model prog w) X k.ga
  have q2 := looks_findIn (M := model prog w) X k.gt
  have z3 := PySem.F.attr_ValueError.ga.bind (.ref a)
  have z2 : (Value.builtin "BaseException.__getattribute__" == Value.builtin "object.__getattribute__") = false := by decide +kernel
  have z1 : (onTheHeap (Value.ref C) && Value.builtin "BaseException.__getattribute__" == Value.builtin "object.__getattribute__") = false := by rw [z2]; rfl
  unfold getAttr? getAttrBy? getAttrBy
  refine wpAny_bind (wpAny_mkText (wpAny_bind (wpAny_attempt (wpAny_holding (wpAny_bind (q0.at (wpAny_bind (q1.at ?_))))))))
  repeat (any_goals (first | assumption | (with_reducible refine wpAny_attempt ?_) | (with_reducible refine wpAny_call ?_) | (with_reducible refine wpAny_runValue ?_) | (with_reducible refine wpAny_run ?_) | lk | wp_step))
  show codeAny _ _ (.call (.builtin "BaseException.__getattribute__") ⟨[.ref a, .str "__class__" t], []⟩) _ _
  refine v9 X p k ?_
  repeat (any_goals (first | assumption | lk | wp_step))
theorem Bn (k : gC K C) : KitX K (.ref a) (.ref C) (dE C a) where
  ty := fun _ _ _ p => p.ty
  it := fun M h X _ => by
    obtain ⟨cd, hc⟩ := Option.isSome_iff_exists.mp k.cl
    unfold clsIn at hc
    split at hc
    · rename_i ho
      intro A' Q' E' s' kk q
      unfold isType loadHead
      exact wpAny_bind (wpAny_loadPart (kk _ _ (X _ _ ho)) (wpAny_pure q))
    · cases hc
  ne := fun h tp dd its n sl X htp => by
    obtain ⟨cd, hc⟩ := Option.isSome_iff_exists.mp k.cl
    refine Bool.eq_false_iff.mpr fun q => ?_
    obtain rfl : C = tp := Value.ref.inj (beq_iff_eq.mp q)
    unfold clsIn at hc
    split at hc
    · rename_i ho
      cases (X _ _ ho).symm.trans htp
    · cases hc
  ca := fun {_ _ _ _ _ s} X p q => by
    obtain ⟨h, g, d, t, os⟩ := s
    exact yb X p k q
end
section
variable {X : Cx}
theorem wc : el X (.builtin "isinstance") (fun xs H Q => ∃ a C c cv b, xs = [.ref a, c] ∧ H a = some (.ext (dE C a)) ∧ gC X.K C ∧ (∀ u, RelV c u → u = cv) ∧ kitOne X.K (.ref C) cv = some b ∧ Q (.bl b) H) := by
  intro pins s σ H xs us Q I r h
  obtain ⟨a, C, c, cv, b, rfl, ha, k, hc, e, q⟩ := h
  obtain ⟨u, v, rfl, ru, rv⟩ := vals2 r
  cases (show u = Value.ref a from ru)
  cases hc v rv
  have p : dE C a s.heap := (I.hok a _ ha).1
  exact kia_one (Bn k) I.kIn p e (fun z => nomatch z) fun tk => ⟨.bl b, H, I.tok tk, rfl, q⟩
end
end L2
namespace DL
open PySem PySem.Spec PyProof.Rows L2
noncomputable def dj (mg : Str → Option Value) (c : Str) : Value := (mg c).getD .none
noncomputable abbrev EX (mg : Str → Option Value) (E0 : XK) : Str → Hp → Prop := fun c H' => E0 (dj mg c) none H'
section
variable {P : Program} {w : World} {K : PySem.W.Frag} {mg : Str → Option Value} {base : Heap} {H : Hp} {Ω : Om}
end
section
variable {X : Cx} {E : Str → Hp → Prop} {E0 : XK} {pos : Pos} {e : Expr} {mp : List Nat}
structure BD (P : Program) (w : World) (K : PySem.W.Frag) (mg : Str → Option Value) (base : Heap) (k : Nat) (x : Str) (n : Nat) (M : List D → Ro) : Prop where
  ex : ∃ (f : Addr) (fd : FuncData) (ps : List Str), aO P w K mg base (Fly P w) k f fd ps (spP K (dj mg) n M) ∧ mg x = some (.ref f) ∧ PySem.W.keepIn K (.ref f) = true ∧ Binds K fd ps []
noncomputable def gq (c : Str) (ok : DSt → Bool) : DM Fl := fun δ => if ok δ then .er c else .un
noncomputable abbrev xM (R : St → Hp → Prop) : TE := fun σ H Q => R σ H ∧ ∀ x : Str, x.length ≤ 2000000 → Q (.str x) H
noncomputable def PMD (X : Cx) (e : Expr) (ok : DSt → Bool) : Prop := ∃ R, PE X e (xM R) ∧ ∀ {H Ω σ δ}, ar X.K H Ω σ δ → ok δ = true → R σ H
noncomputable def PXD (X : Cx) (e : Expr) (ok : DSt → Bool) : Prop := ∃ R, PX X e R ∧ ∀ {H Ω σ δ}, ar X.K H Ω σ δ → ok δ = true → R σ H
noncomputable def mx (X : Cx) (es : List Expr) (ok : DSt → Bool) : Prop := ∃ R, PXs X es R ∧ ∀ {H Ω σ δ}, ar X.K H Ω σ δ → ok δ = true → R σ H
theorem kx {x : Str} {C : Addr} {np cpos : Pos} {ok : DSt → Bool} (hT : Thr X E0) (hc : X.calm = true) (c : hU X.K X.mg x C) (hm : PMD X e ok) (hg : Gl X x := by rfl) (hdb : (x == ("__debug__" : Str)) = false := by decide)
    (he : starEach [e] X.env = (false, eval e X.env) :: starEach [] X.env := by rfl) (hpl : (backTo cpos (starEach [] X.env)).any (·.1) = false := by rfl) :
    PSD X (EX X.mg E0) mp (.Raise (some (.Call (.Name x np) [e] [] cpos)) none pos) (gq x ok) := by
  obtain ⟨R, p, hR⟩ := hm
  refine ⟨_, uP hT hc c hg (dX p eA he) hdb he hpl, fun σ H δ Ω r B h => ?_⟩
  unfold gq at h
  split at h
  · rename_i hok
    have h1 : E0 (dj X.mg x) none H := h H Ω .refl r.trk
    have h2 : dj X.mg x = .ref C := by unfold dj; rw [c.g]; rfl
    rw [h2] at h1
    exact ⟨hR r hok, fun y hy => ⟨by show 1 ≤ sizeLine; decide, h1⟩⟩
  · exact h.elim
theorem kf {e' : Expr} {es : List Expr} {ok : DSt → Bool} (h : mx X (e :: e' :: es) ok) (hl : (e :: e' :: es).length ≤ 100 := by simp) : PMD X (.JoinedStr (e :: e' :: es) pos) ok := by
  obtain ⟨R, p, hR⟩ := h
  exact ⟨R, yC p hl, hR⟩
theorem kH : mx X [] (fun _ => true) := ⟨_, vd, fun _ _ => trivial⟩
theorem ed {es : List Expr} {ok ok' : DSt → Bool} (h : PXD X e ok) (hs : mx X es ok') (he : evalEach (e :: es) X.env = eval e X.env :: evalEach es X.env := by rfl) : mx X (e :: es) (fun δ => ok δ && ok' δ) := by
  obtain ⟨R, p, hR⟩ := h
  obtain ⟨R', p', hR'⟩ := hs
  exact ⟨_, uY p p' he, fun r h => ⟨hR r (Bool.and_eq_true_iff.mp h).1, hR' r (Bool.and_eq_true_iff.mp h).2⟩⟩
theorem jR {x : Str} {j} (h : x.length ≤ 20000 := by decide +kernel) : PXD X (.Constant (.str x) j pos) (fun _ => true) := ⟨_, xw h, fun _ _ => trivial⟩
section
variable {x : Str} {p : Pos} {i : Nat}
theorem xt {a : Int} (hm : ki X.K X.mg x (.int a)) (hg : Gl X x := by rfl) (hd : (x == ("__debug__" : Str)) = false := by decide) (h1 : a.natAbs.log2 < 1920 := by decide) (h2 : (toString a : Str).length ≤ 20000 := by decide +kernel) :
    PXD X (.FormattedValue (.Name x p) (-1) none pos) (fun _ => true) := by
  obtain ⟨u, v, e1, e2, e3⟩ := hm
  have e4 : v = .int a := e3 (fun _ => none) (fun _ => none)
  subst e4
  exact ⟨_, xT (a := a) (ez hg e1 e2 hd) (fun _ _ _ q => q) h1 h2, fun _ _ => trivial⟩
end
end
end DL
namespace DL
open PySem PySem.Spec PyProof.Rows L2
noncomputable abbrev PXv (K : PySem.W.Frag) (mg : Str → Option Value) (σ : St) (Q : VK) (Ex : XK) : Sum Str DV → DSt → Hp → Om → Prop := fun r δ' H' Ω' => match r with
  | .inl c => ar K H' Ω' σ δ' → Ex (dj mg c) none H'
  | .inr a => PV K σ Q a δ' H' Ω'
noncomputable def DXE (K : PySem.W.Frag) (mg : Str → Option Value) (t : TX) (fx : DM (Sum Str DV)) : Prop := ∀ σ H δ Ω, ar K H Ω σ δ → ∀ (Q : VK) (Ex : XK), Wg EN H Ω (PXv K mg σ Q Ex) (fx δ) → t σ H Q Ex
noncomputable def PXE (X : Cx) (e : Expr) (fx : DM (Sum Str DV)) : Prop := ∃ t, PEX X e t ∧ DXE X.K X.mg t fx
section
variable {X : Cx} {pos : Pos} {e : Expr} {mp : List Nat} {K : PySem.W.Frag} {mg : Str → Option Value} {H : Hp} {Ω : Om} {σ : St} {δ : DSt}
noncomputable def HDD (X : Cx) (mp : List Nat) (hs : List ExceptHandler) (h : Str → DM Fl) : Prop := ∃ hd, HD X hs hd ∧ ∀ c σ H δ Ω B, ar X.K H Ω σ δ → Wg EN H Ω (PF X.K mp σ B) (h c δ) → hd (dj X.mg c) B σ H
theorem vt : HDD X mp [] (fun _ _ => .un) := ⟨_, uC, fun _ _ _ _ _ _ _ h => h⟩
noncomputable def fB (K : PySem.W.Frag) (mg : Str → Option Value) (D : Value) (tab : Str → Option Bool) : Prop := ∀ c b, tab c = some b → ∃ C, mg c = some (.ref C) ∧ PySem.W.nsIn K mainGlobals c = some (some (.ref C)) ∧ PySem.W.exmOne K (.ref C) D = some b
noncomputable def gP (i : Nat) : Rs Fl → Rs Fl
  | .ok fl δ => .ok fl (δ.set i .no)
  | r => r
theorem ar.drop {i : Nat} (R : ar K H Ω σ δ) : ar K H Ω (σ.set i none) (δ.set i .no) := by
  refine ⟨by rw [List.length_set, List.length_set]; exact R.len, fun j s h => ?_, R.trk⟩
  by_cases hj : i = j
  · subst hj
    have hl : i < δ.length := by
      have := (List.getElem?_eq_some_iff.mp h).1
      rwa [List.length_set] at this
    rw [List.getElem?_set_self hl] at h
    cases h
    trivial
  · rw [List.getElem?_set_ne hj] at h
    rw [List.getElem?_set_ne hj]
    exact R.sl j s h
theorem nW (i : Nat) {D : Addr} {n x : Str} {np hpos : Pos} {b₀ : Stmt} {suite : List Stmt} {rest : List ExceptHandler} {fb : DM Fl} {h : Str → DM Fl} {tab : Str → Option Bool} (ht : fB X.K X.mg (.ref D) tab) (hm : X.mg x = some (.ref D)) (hN : X.N.Nodup)
    (hs : ∀ a, dN (gJ X a) EN mp (b₀ :: suite) fb) (hr : HDD X mp rest h) (hmp : i ∉ mp := by decide) (hex : X.ex = [] := by rfl) (hi : X.N[i]? = some n := by rfl) (hk : X.env.scope.names.lookup n = some .local := by rfl) (hg : Gl X x := by rfl) (hdb : (x == ("__debug__" : Str)) = false := by decide) :
    HDD X mp (.ExceptHandler (some (.Name x np)) (some n) (b₀ :: suite) hpos :: rest) (fun c => match tab c with | some true => fun δ => gP i (fb (δ.set i (.sh (.exc c)))) | some false => h c | none => fun _ => .un) := by
  obtain ⟨hd, p, q⟩ := hr
  refine ⟨_, Bj hex hN hi hk hg hm (fun a => (hs a).choose_spec.1) p hdb, fun c σ H δ Ω B R w => ?_⟩
  dsimp only at w
  cases e : tab c with
  | none => rw [e] at w; exact w.elim
  | some b =>
    obtain ⟨C, m1, m2, m3⟩ := ht c b e
    have hc : dj X.mg c = .ref C := by unfold dj; rw [m1]; rfl
    rw [e] at w
    cases b with
    | false => exact .inr ⟨by rw [hc]; exact m3, q c σ H δ Ω B R w⟩
    | true =>
      refine .inl ⟨C, hc, by rw [hc]; exact m3, fun a ha => ?_⟩
      refine (hs a).choose_spec.2 (σ.set i (some (.ref a))) _ (δ.set i (.sh (.exc c))) Ω ((R.alloc ha).set ⟨.ref a, rfl, (show ∃ a C, _ from ⟨a, C, rfl, m2, aT⟩)⟩) _ ?_
      have ex : Ext H Ω (upd H a (.ext (dE C a))) Ω := .alloc ha R.trk
      have w : Wg EN H Ω (PF X.K mp σ B) (gP i (fb (δ.set i (.sh (.exc c))))) := w
      cases e2 : fb (δ.set i (.sh (.exc c))) with
      | un => rw [e2] at w; exact w
      | er c' => rw [e2] at w; exact fun H' Ω' x t => w H' Ω' (ex.trans x) t
      | ok fl δ2 =>
        rw [e2] at w
        intro H2 Ω2 x2 σ2 R2 m2'
        have z := w H2 Ω2 (ex.trans x2) (σ2.set i none) R2.drop fun j hj => by
          have hne : i ≠ j := by rintro rfl; exact hmp hj
          rw [List.getElem?_set_ne hne, m2' j hj, List.getElem?_set_ne hne]
        cases fl with
        | nx => exact z
        | bk => exact z
        | ct => exact z
        | rt d => exact z
        | rto ds => exact z
noncomputable def jq (fx : DM (Sum Str DV)) (h : Str → DM Fl) : DM Fl := fx.bd fun r => match r with
  | .inl c => h c
  | .inr (.val d) => .ret (.rt d)
  | .inr (.own ds) => .ret (.rto ds)
  | .inr (.slot _) => fun _ => .un
  | .inr (.fld _ _) => fun _ => .un
theorem AA {p1 : Pos} {h₀ : ExceptHandler} {hs : List ExceptHandler} {fx : DM (Sum Str DV)} {h : Str → DM Fl} (he : PXE X e fx) (hh : HDD X mp (h₀ :: hs) h) (hex : X.ex = [] := by rfl) (hstk : X.stack = X.env :: X.outer := by rfl)
    (hfr : X.env.frame = some X.env.locals := by rfl) : PSD X EN mp (.Try [.Return (some e) p1] (h₀ :: hs) [] [] pos) (jq fx h) := by
  obtain ⟨t, p, d⟩ := he
  obtain ⟨hd, ph, dh⟩ := hh
  refine ⟨_, yk hex hstk hfr p ph, fun σ H δ Ω R B w => ?_⟩
  refine d σ H δ Ω R _ _ (Wg.bd w fun r δ1 H1 Ω1 ex w1 => ?_)
  cases r with
  | inl c => exact fun R1 => dh c σ H1 δ1 Ω1 B R1 w1
  | inr a =>
    cases a with
    | val dd => exact fun R1 v rv => w1 H1 Ω1 .refl σ R1 (fun _ _ => rfl) v rv
    | own ds => exact fun R1 v rv => w1 H1 Ω1 .refl σ R1 (fun _ _ => rfl) v rv
    | slot j => exact w1.elim
    | fld _ _ => exact w1.elim
noncomputable def cG (tab : Str → Option Bool) : D → Option DV
  | .exc c => (tab c).map fun b => .val (.bl b)
  | _ => none
noncomputable def eO (K : PySem.W.Frag) (D : Value) (tab : Str → Option Bool) : Prop := ∀ c b, tab c = some b → ∃ C, PySem.W.nsIn K mainGlobals c = some (some (.ref C)) ∧ gC K C ∧ PySem.W.kitOne K (.ref C) D = some b
theorem fF {E : Str → Hp → Prop} {f : DM DV} {x : Str} {p p2 : Pos} {v : V} {u : Value} {tab : Str → Option Bool} (ht : eO X.K u tab) (hv : ∀ z, RelV v z → z = u) (hx : PE X (.Name x p2) (tC v)) (hm : X.mg "isinstance" = none) (ha : PED X E e f) (hg : Gl X "isinstance" := by rfl)
    (hs : starEach [e, .Name x p2] X.env = (false, eval e X.env) :: starEach [.Name x p2] X.env := by rfl) (hs2 : starEach [.Name x p2] X.env = (false, eval (.Name x p2) X.env) :: starEach [] X.env := by rfl)
    (hpl : (backTo pos (starEach [.Name x p2] X.env)).any (·.1) = false := by rfl) :
    PED X E (.Call (.Name "isinstance" p) [e, .Name x p2] [] pos) (fUn f (cG tab)) := by
  obtain ⟨t, q, d⟩ := ha
  refine ⟨_, nU wc hg hm boot_isinstance (dX q (dX hx eA hs2) hs) (by decide) (by decide) hs hpl, ?_⟩
  intro σ H δ Ω R Q h
  refine d.use R h fun a1 y δ1 H1 Ω1 _ s1 R1 r1 h1 => ?_
  (try dsimp only at h1)
  cases q1 : res δ1 a1 with
  | none => rw [q1] at h1; exact h1.elim
  | some d1 =>
    rw [q1] at h1
    (try dsimp only at h1)
    cases d1 with
    | exc c =>
      cases q3 : tab c with
      | none => unfold cG at h1; dsimp only at h1; rw [q3] at h1; exact h1.elim
      | some bb =>
        unfold cG at h1
        dsimp only at h1
        rw [q3] at h1
        obtain ⟨C, n1, n2, n3⟩ := ht c bb q3
        obtain ⟨a, C', z1, z2, z3⟩ := (show ∃ a C, _ from r1.res R1 q1)
        subst z1
        rw [n1] at z2
        cases z2
        exact ⟨a, C, v, u, bb, rfl, z3, n2, hv, n3, Wg.now (d := .val (.bl bb)) h1 R1 rfl⟩
    | _ => exact h1.elim
end
end DL
namespace DL
open PySem PySem.Spec PyProof.Rows L2
section
variable {δ δ1 δ2 : DSt} {d : D} {ds es : List D} {i n : Nat} {c : Str} {as : List DV} {fa r : DM (List DV)} {f g : DM DV} {body S S1 : DM Fl} {a : DV}
theorem kz {ok : DSt → Bool} (h : ok δ = true) : gq c ok δ = .er c := by unfold gq; rw [h]; rfl
end
section
variable {K : PySem.W.Frag} {mg : Str → Option Value} {V : Value} {k : Str} {v : Bool} {C : Addr} {l : List (Str × Bool)}
theorem qF {c : Str} {b : Bool} (h : ((k, v) :: l).lookup c = some b) : (c = k ∧ v = b) ∨ l.lookup c = some b := by
  rw [List.lookup_cons] at h
  split at h
  · rename_i z
    exact .inl ⟨beq_iff_eq.mp z, Option.some.inj h⟩
  · exact .inr h
theorem jA : fB K mg V (fun c => ([] : List (Str × Bool)).lookup c) := fun _ _ h => by cases h
theorem cP (h1 : mg k = some (.ref C)) (h2 : PySem.W.nsIn K mainGlobals k = some (some (.ref C))) (h3 : PySem.W.exmOne K (.ref C) V = some v) (h : fB K mg V (fun c => l.lookup c)) : fB K mg V (fun c => ((k, v) :: l).lookup c) := fun c b q => by
  rcases qF q with ⟨rfl, rfl⟩ | z
  · exact ⟨C, h1, h2, h3⟩
  · exact h c b z
theorem iI : eO K V (fun c => ([] : List (Str × Bool)).lookup c) := fun _ _ h => by cases h
theorem ck (h2 : PySem.W.nsIn K mainGlobals k = some (some (.ref C))) (hk : jM K C = true) (h3 : PySem.W.kitOne K (.ref C) V = some v) (h : eO K V (fun c => l.lookup c)) : eO K V (fun c => ((k, v) :: l).lookup c) := fun c b q => by
  rcases qF q with ⟨rfl, rfl⟩ | z
  · exact ⟨C, h2, .of hk, h3⟩
  · exact h c b z
end
end DL
namespace DL
open PySem PySem.Spec PyProof.Rows L2
mutual
noncomputable def flat : D → Bool
  | .non => true
  | .bl _ => true
  | .int _ => true
  | .str _ => true
  | .key _ _ => true
  | .tup ds => cF ds
  | _ => false
noncomputable def cF : List D → Bool
  | [] => true
  | d :: ds => flat d && cF ds
end
mutual
theorem Rep.flat {K : PySem.W.Frag} {H : Hp} {Ω Ω' : Om} : ∀ {d : D} {v : V}, DL.flat d = true → Rep K H Ω d v → Rep K H Ω' d v
  | .non, _, _, h => h
  | .bl _, _, _, h => h
  | .int _, _, _, h => h
  | .str _, _, _, h => h
  | .key _ _, _, _, h => h
  | .tup _, _, f, h => by
    obtain ⟨a, vs, e1, e2, e3⟩ := (show ∃ a vs, _ from h)
    exact (show ∃ a vs, _ from ⟨a, vs, e1, e2, au.flat f e3⟩)
  | .lst _, _, f, _ => by cases f
  | .scr _, _, f, _ => by cases f
  | .exc _, _, f, _ => by cases f
  | .obj _ _ _ _, _, f, _ => by cases f
theorem au.flat {K : PySem.W.Frag} {H : Hp} {Ω Ω' : Om} : ∀ {ds : List D} {vs : List V}, DL.cF ds = true → au K H Ω ds vs → au K H Ω' ds vs
  | [], _, _, h => h
  | d :: ds, _, f, h => by
    obtain ⟨v, r, e1, e2, e3⟩ := (show ∃ v r, _ from h)
    obtain ⟨f1, f2⟩ := Bool.and_eq_true_iff.mp (show (DL.flat d && DL.cF ds) = true from f)
    exact (show ∃ v r, _ from ⟨v, r, e1, Rep.flat f1 e2, au.flat f2 e3⟩)
end
structure Bd where
  ks : List (Str × Int)
  vs : List D
  as : List D
  bs : List D
noncomputable abbrev Bd.sl (b : Bd) : Sl := .ob b.ks b.vs b.as b.bs
noncomputable abbrev Bd.d (b : Bd) : D := .obj b.ks b.vs b.as b.bs
noncomputable def bR (δ : DSt) (i : Nat) : Option (Bd × Bool) := match δ[i]? with
  | some (.ob ks vs as bs) => some (⟨ks, vs, as, bs⟩, true)
  | some (.sh (.obj ks vs as bs)) => some (⟨ks, vs, as, bs⟩, false)
  | _ => none
noncomputable def bI (K : PySem.W.Frag) (H : Hp) (Ω : Om) (l : Option Nat) (p a1 a2 a3 : Addr) (b : Bd) : Prop := ∃ kvs xs ys, bT K H p a1 a2 a3 ∧ (H a1 = some (.dT kvs) ∧ Ω a1 = l) ∧ (H a2 = some (.lst xs) ∧ Ω a2 = l) ∧ (H a3 = some (.lst ys) ∧ Ω a3 = l) ∧ kvs.map (·.1) = b.ks.map bP ∧ au K H Ω b.vs (kvs.map (·.2)) ∧ au K H Ω b.as xs ∧ au K H Ω b.bs ys
noncomputable def bG (a1 a2 a3 x : Addr) : Prop := x = a1 ∨ x = a2 ∨ x = a3
noncomputable instance {a1 a2 a3 x : Addr} : Decidable (bG a1 a2 a3 x) := by unfold bG; exact inferInstance
section
variable {K : PySem.W.Frag} {E : Str → Hp → Prop} {H H1 H' : Hp} {Ω Ω1 Ω' : Om} {σ : St} {δ : DSt} {p a1 a2 a3 : Addr} {b : Bd} {l l' : Option Nat}
theorem eB.pt {k : Nat} {ks : List (Str × Int)} {vs as bs : List D} (h : eB K H Ω k p ks vs as bs) : ∃ a1 a2 a3, bI K H Ω (some k) p a1 a2 a3 ⟨ks, vs, as, bs⟩ ∧ a2 ≠ a3 := by
  obtain ⟨a1, a2, a3, kvs, xs, ys, h1, h2, h3, h4, h5, h6⟩ := h
  exact ⟨a1, a2, a3, ⟨kvs, xs, ys, h1, h2, h3, h4, h6⟩, h5⟩
theorem bI.ob {k : Nat} (h : bI K H Ω (some k) p a1 a2 a3 b) (hne : a2 ≠ a3) : eB K H Ω k p b.ks b.vs b.as b.bs := by
  obtain ⟨kvs, xs, ys, h1, h2, h3, h4, h6⟩ := h
  exact ⟨a1, a2, a3, kvs, xs, ys, h1, h2, h3, h4, hne, h6⟩
theorem bI.obj (h : bI K H Ω none p a1 a2 a3 b) : Rep K H Ω b.d (.ref p) := by
  obtain ⟨kvs, xs, ys, h1, h2, h3, h4, h5, h6, h7, h8⟩ := h
  exact (show ∃ p a1 a2 a3 kvs xs ys, _ from ⟨p, a1, a2, a3, kvs, xs, ys, rfl, h1, h2, h3, h4, h5, h6, h7, h8⟩)
theorem dF {i : Nat} {own : Bool} (R : ar K H Ω σ δ) (h : bR δ i = some (b, own)) : ∃ p a1 a2 a3, σ[i]? = some (some (.ref p)) ∧ bI K H Ω (if own then some (i + 2) else none) p a1 a2 a3 b ∧ (own = true → a2 ≠ a3) := by
  unfold bR at h
  split at h
  · rename_i ks vs as bs hd
    cases h
    obtain ⟨p, e0, ho⟩ := R.sl i _ hd
    obtain ⟨a1, a2, a3, h1, h2⟩ := eB.pt ho
    exact ⟨p, a1, a2, a3, join_some e0, h1, fun _ => h2⟩
  · rename_i ks vs as bs hd
    cases h
    obtain ⟨v, e0, hv⟩ := R.sl i _ hd
    obtain ⟨p, a1, a2, a3, kvs, xs, ys, e1, e2⟩ := (show ∃ p a1 a2 a3 kvs xs ys, _ from hv)
    subst e1
    exact ⟨p, a1, a2, a3, join_some e0, ⟨kvs, xs, ys, e2⟩, fun z => by cases z⟩
  · cases h
theorem bI.re (h : bI K H Ω l p a1 a2 a3 b) (hl : ∀ x, Ω x = none → Ω' x = none) (h1 : Ω' a1 = l') (h2 : Ω' a2 = l') (h3 : Ω' a3 = l') : bI K H Ω' l' p a1 a2 a3 b := by
  obtain ⟨kvs, xs, ys, q1, q2, q3, q4, q5, q6, q7, q8⟩ := h
  exact ⟨kvs, xs, ys, q1, ⟨q2.1, h1⟩, ⟨q3.1, h2⟩, ⟨q4.1, h3⟩, q5, q6.less hl, q7.less hl, q8.less hl⟩
theorem bI.lab (h : bI K H Ω l p a1 a2 a3 b) {x : Addr} (hx : bG a1 a2 a3 x) : Ω x = l ∧ ∃ u, H x = some u ∧ bB u = false := by
  obtain ⟨kvs, xs, ys, q1, q2, q3, q4, _⟩ := h
  rcases hx with rfl | rfl | rfl
  · exact ⟨q2.2, _, q2.1, rfl⟩
  · exact ⟨q3.2, _, q3.1, rfl⟩
  · exact ⟨q4.2, _, q4.1, rfl⟩
theorem bI.bed (h : bI K H Ω l p a1 a2 a3 b) : bT K H p a1 a2 a3 := h.choose_spec.choose_spec.choose_spec.1
noncomputable def seen (Ω : Om) (a1 a2 a3 : Addr) (l : Option Nat) : Om := fun x => if bG a1 a2 a3 x then l else under Ω x
theorem cq {x : Addr} (h : bG a1 a2 a3 x) : seen Ω a1 a2 a3 l x = l := if_pos h
theorem ie {x : Addr} (h : ¬ bG a1 a2 a3 x) : seen Ω a1 a2 a3 l x = under Ω x := if_neg h
noncomputable def cw (Ω Ω' : Om) (a1 a2 a3 : Addr) : Om := fun x => if bG a1 a2 a3 x then Ω x else back Ω Ω' x
theorem ij {x : Addr} (h : bG a1 a2 a3 x) : cw Ω Ω' a1 a2 a3 x = Ω x := if_pos h
theorem gW {x : Addr} (h : ¬ bG a1 a2 a3 x) : cw Ω Ω' a1 a2 a3 x = back Ω Ω' x := if_neg h
theorem kO (hp : l = none ∨ ∀ x, bG a1 a2 a3 x → Ω x ≠ none) : ∀ x, Ω x = none → seen Ω a1 a2 a3 l x = none := fun x q => by
  by_cases h : bG a1 a2 a3 x
  · rcases hp with z | z
    · rw [cq h]; exact z
    · exact absurd q (z x h)
  · rw [ie h]; exact eP q
theorem lb (R : ar K H Ω σ δ) (h : bI K H Ω l p a1 a2 a3 b) : Trk H (seen Ω a1 a2 a3 l') := fun x k q => by
  by_cases hx : bG a1 a2 a3 x
  · exact (h.lab hx).2
  · rw [ie hx] at q; exact kR R.trk x k q
theorem Ext.cw (h : bI K H Ω l p a1 a2 a3 b) (e : Ext H (seen Ω a1 a2 a3 l') H' Ω') (hc : l' = none ∨ ∃ k, l = some (k + 1)) : Ext H Ω H' (DL.cw Ω Ω' a1 a2 a3) where
  keep := fun x o q z => by
    by_cases hx : bG a1 a2 a3 x
    · rcases hc with hc | ⟨k, hc⟩
      · exact e.keep x o q (.inr (.inl (by rw [cq hx]; exact hc)))
      · obtain ⟨z1, u, z2, z3⟩ := h.lab hx
        rw [z2] at q
        cases q
        rcases z with z | z | z
        · rw [z3] at z; cases z
        · rw [z1, hc] at z; cases z
        · rw [z1, hc] at z; cases z
    · exact e.keep x o q (z.imp_right fun y => by rw [ie hx]; exact y.imp eP fm)
  new := fun x q z => by
    by_cases hx : bG a1 a2 a3 x
    · rw [ij hx]; exact q
    · rw [gW hx]; exact gU x (e.new x (by rw [ie hx]; exact eP q) z)
  fr := fun x => by
    by_cases hx : bG a1 a2 a3 x
    · rw [ij hx]
    · rw [gW hx]
      constructor
      · intro z
        rw [jx ((e.fr x).mp (by rw [ie hx]; exact fm z))]
        exact z
      · intro z
        unfold DL.back at z
        split at z
        · exact z
        · cases z
        · cases z
  live := e.live
theorem rS (R : ar K H Ω σ δ) (h : bI K H Ω l p a1 a2 a3 b) (ht : Trk H' Ω') (hs : ∀ x, bG a1 a2 a3 x → ∃ u, H' x = some u ∧ bB u = false) : Trk H' (DL.cw Ω Ω' a1 a2 a3) := fun x k q => by
  by_cases hx : bG a1 a2 a3 x
  · exact hs x hx
  · rw [gW hx] at q
    unfold DL.back at q
    split at q
    · rename_i z; exact ht x _ z
    · rename_i z; exact ht x _ z
    · cases q
theorem mn (hp : ∀ x, bG a1 a2 a3 x → Ω' x = none → Ω x = none) : ∀ x, Ω' x = none → DL.cw Ω Ω' a1 a2 a3 x = none := fun x q => by
  by_cases hx : bG a1 a2 a3 x
  · rw [ij hx]; exact hp x hx q
  · rw [gW hx]; exact gU x q
theorem rO (e : Ext H (seen Ω a1 a2 a3 l') H' Ω') {x : Addr} {k : Nat} {u : HO} (hx : ¬ bG a1 a2 a3 x) (q1 : Ω x = some k) (q2 : H x = some u) : H' x = some u ∧ DL.cw Ω Ω' a1 a2 a3 x = some k := by
  have z : seen Ω a1 a2 a3 l' x = some 0 := by rw [ie hx]; exact fm q1
  exact ⟨e.keep x u q2 (.inr (.inr z)), by rw [gW hx, jx ((e.fr x).mp z)]; exact q1⟩
theorem ar.homeR (R : ar K H Ω σ δ) (h : bI K H Ω l p a1 a2 a3 b) (e : Ext H (seen Ω a1 a2 a3 none) H' Ω') (ht : Trk H' Ω') : ar K H' (DL.cw Ω Ω' a1 a2 a3) σ δ := by
  have kp : ∀ x, bG a1 a2 a3 x → ∀ u, H x = some u → H' x = some u := fun x hx u q => e.keep x u q (.inr (.inl (cq hx)))
  refine R.ext (Ext.cw h e (.inl rfl)) (fun x k u q1 q2 => ?_) (rS R h ht fun x hx => ?_)
  · by_cases hx : bG a1 a2 a3 x
    · exact ⟨kp x hx u q2, by rw [ij hx]; exact q1⟩
    · exact rO e hx q1 q2
  · obtain ⟨_, u, z2, z3⟩ := h.lab hx
    exact ⟨u, kp x hx u z2, z3⟩
theorem ar.homeW {i : Nat} {b' : Bd} (R : ar K H Ω σ δ) (h : bI K H Ω (some (i + 2)) p a1 a2 a3 b) (hne : a2 ≠ a3) (hσ : σ[i]? = some (some (.ref p))) (e : Ext H (seen Ω a1 a2 a3 (some 2)) H' Ω') (ht : Trk H' Ω') (hb : eB K H' Ω' 2 p b'.ks b'.vs b'.as b'.bs) :
    ar K H' (DL.cw Ω Ω' a1 a2 a3) σ (δ.set i b'.sl) := by
  have ex := Ext.cw h e (.inr ⟨i + 1, rfl⟩)
  obtain ⟨c1, c2, c3, hc, _⟩ := eB.pt hb
  obtain ⟨rfl, rfl, rfl⟩ := (bT.ext ex h.bed).inj hc.bed
  have hl : ∀ x, Ω' x = none → DL.cw Ω Ω' a1 a2 a3 x = none := mn fun x hx q => by rw [(hc.lab hx).1] at q; cases q
  refine ⟨by rw [List.length_set]; exact R.len, fun j s q => ?_, rS R h ht fun x hx => (hc.lab hx).2⟩
  by_cases hj : i = j
  · subst hj
    have hlt : i < δ.length := by
      have := (List.getElem?_eq_some_iff.mp q).1
      rwa [List.length_set] at this
    rw [List.getElem?_set_self hlt] at q
    cases q
    refine ⟨p, by rw [hσ]; rfl, bI.ob (b := b') (hc.re hl ?_ ?_ ?_) hne⟩
    · rw [ij (.inl rfl)]; exact (h.lab (.inl rfl)).1
    · rw [ij (.inr (.inl rfl))]; exact (h.lab (.inr (.inl rfl))).1
    · rw [ij (.inr (.inr rfl))]; exact (h.lab (.inr (.inr rfl))).1
  · rw [List.getElem?_set_ne hj] at q
    refine (R.sl j s q).mv (fun _ _ => .ext ex) (fun _ _ => .ext ex) fun x u q1 q2 => ?_
    refine rO e (fun hx => ?_) q1 q2
    rw [(h.lab hx).1] at q1
    exact hj (by have := Option.some.inj q1; omega)
end
end DL
namespace DL
open PySem PySem.Spec PyProof.Rows L2
inductive Rw where
  | un | er (c : Str) | ok (d : D) (b : Bd) | own (ds : List D) (b : Bd)
noncomputable def RwQ (K : PySem.W.Frag) (E : Str → Hp → Prop) (H : Hp) (Ω : Om) (p a1 a2 a3 : Addr) (b : Bd) (Q : VK) : Rw → Prop
  | .un => False
  | .er c => bI K H Ω none p a1 a2 a3 b ∧ ∀ H' Ω', Ext H Ω H' Ω' → Trk H' Ω' → E c H'
  | .ok d b' => (bI K H Ω (some 2) p a1 a2 a3 b ∧ a2 ≠ a3) ∧ ∀ H' Ω', Ext H Ω H' Ω' → Trk H' Ω' → eB K H' Ω' 2 p b'.ks b'.vs b'.as b'.bs → ∀ v, Rep K H' Ω' d v → Q v H'
  | .own es b' => (bI K H Ω (some 2) p a1 a2 a3 b ∧ a2 ≠ a3) ∧ ∀ H' Ω', Ext H Ω H' Ω' → Trk H' Ω' → eB K H' Ω' 2 p b'.ks b'.vs b'.as b'.bs → ∀ v, cA K H' Ω' [] (.own es) v → Q v H'
noncomputable def spW (K : PySem.W.Frag) (ce : Str → Value) (n : Nat) (M : Bd → List D → Rw) : Sp := fun vs H Q E => vs.length = n ∧ ∃ (Ω : Om) (p a1 a2 a3 : Addr) (ws : List V) (ds : List D) (b : Bd), Trk H Ω ∧ vs = .ref p :: ws ∧ au K H Ω ds ws ∧ RwQ K (fun c H' => E (ce c) none H') H Ω p a1 a2 a3 b Q (M b ds)
noncomputable def cC (n : Nat) (ds : List D) : DSt := ds.map .sh ++ List.replicate (n - (ds.length + 1)) .no
noncomputable def cU (δ' : DSt) (k : Bd → Rw) : Rw := match δ'[(0 : Nat)]? with | some (Sl.ob ks vs as bs) => k ⟨ks, vs, as, bs⟩ | _ => .un
noncomputable def cY (body : DM Fl) (n : Nat) (b : Bd) (ds : List D) : Rw := match body (b.sl :: cC n ds) with
  | .ok (.rt d) δ' => cU δ' (.ok d)
  | .ok (.rto es) δ' => cU δ' (.own es)
  | .ok .nx δ' => cU δ' (.ok .non)
  | _ => .un
noncomputable def fK (body : DM Fl) (n : Nat) (b : Bd) (ds : List D) : Rw := match cY body n b ds with
  | .un => (match body (.sh b.d :: cC n ds) with | .er c => .er c | _ => .un)
  | r => r
section
variable {P : Program} {w : World} {K : PySem.W.Frag} {mg : Str → Option Value} {base : Heap} {H : Hp} {Ω : Om}
theorem ar.startW {N : List Str} {ds : List D} {ws : List V} {p a1 a2 a3 : Addr} {b : Bd} (hr : au K H Ω ds ws) (ht : Trk H Ω) (hb : bI K H Ω (some 2) p a1 a2 a3 b) (hne : a2 ≠ a3) : ar K H Ω (L2.start N (.ref p :: ws)) (b.sl :: cC N.length ds) := by
  have hl := hr.length
  refine ⟨by unfold L2.start cC; rw [List.length_cons, List.length_append, List.length_append, List.length_map, List.length_map, List.length_replicate, List.length_replicate, List.length_cons, hl]; omega, fun i s h => ?_, ht⟩
  cases i with
  | zero =>
    cases h
    exact ⟨p, rfl, hb.ob hne⟩
  | succ i =>
    have h : (cC N.length ds)[i]? = some s := by simpa using h
    unfold cC at h
    by_cases hi : i < ds.length
    · rw [List.getElem?_append_left (by rw [List.length_map]; exact hi), List.getElem?_map] at h
      obtain ⟨d, hd⟩ : ∃ d, ds[i]? = some d := ⟨ds[i], List.getElem?_eq_getElem hi⟩
      rw [hd] at h
      cases h
      obtain ⟨v, hv, r⟩ := hr.get hd
      refine ⟨v, ?_, r⟩
      unfold L2.start
      rw [List.getElem?_append_left (by rw [List.length_map, List.length_cons, ← hl]; omega), List.getElem?_map, List.getElem?_cons_succ, hv]
      rfl
    · rw [List.getElem?_append_right (by rw [List.length_map]; omega), List.getElem?_replicate] at h
      split at h
      · cases h; trivial
      · cases h
theorem ar.fin0 {σ : St} {δ : DSt} {p : Addr} {k : Bd → Rw} {r : Rw} (R : ar K H Ω σ δ) (hσ : σ[0]? = some (some (.ref p))) (h : cU δ k = r) (hr : r ≠ .un) : ∃ b', r = k b' ∧ eB K H Ω 2 p b'.ks b'.vs b'.as b'.bs := by
  unfold cU at h
  split at h
  · rename_i ks vs as bs hd
    obtain ⟨q, e0, ho⟩ := R.sl 0 _ hd
    rw [hσ] at e0
    cases e0
    exact ⟨⟨ks, vs, as, bs⟩, h.symm, ho⟩
  · exact absurd h.symm hr
theorem sG {E E2 : Str → Hp → Prop} {body : DM Fl} {ts : TS} {N : List Str} {ds : List D} {ws : List V} {p a1 a2 a3 : Addr} {b : Bd} {Q : VK} (hd : DS K E [0] ts body) (hr : au K H Ω ds ws) (ht : Trk H Ω)
    (hq : RwQ K E2 H Ω p a1 a2 a3 b Q (cY body N.length b ds)) (hu : ∀ c, cY body N.length b ds ≠ .er c) : ts { nx := fun _ H' => Q .non H', rt := Q } (L2.start N (.ref p :: ws)) H := by
  have hs : (L2.start N (.ref p :: ws))[0]? = some (some (.ref p)) := rfl
  unfold cY at hq
  cases e : body (b.sl :: cC N.length ds) with
  | un => rw [e] at hq; exact hq.elim
  | er c => rw [e] at hq; exact hq.elim
  | ok fl δ' =>
    rw [e] at hq
    cases fl with
    | bk => exact hq.elim
    | ct => exact hq.elim
    | nx =>
      dsimp only at hq
      cases q : cU δ' (.ok .non) with
      | un => rw [q] at hq; exact hq.elim
      | er c => unfold cU at q; split at q <;> cases q
      | own es b' => unfold cU at q; split at q <;> cases q
      | ok d b' =>
        rw [q] at hq
        obtain ⟨⟨h1, h2⟩, h3⟩ := hq
        refine hd _ H _ Ω (ar.startW hr ht h1 h2) _ ?_
        rw [e]
        intro H' Ω' ex σ' R' m'
        obtain ⟨b2, z1, z2⟩ := R'.fin0 (by rw [m' 0 (by simp)]; exact hs) q (by simp)
        cases z1
        exact h3 H' Ω' ex R'.trk z2 .non rfl
    | rt d0 =>
      dsimp only at hq
      cases q : cU δ' (.ok d0) with
      | un => rw [q] at hq; exact hq.elim
      | er c => unfold cU at q; split at q <;> cases q
      | own es b' => unfold cU at q; split at q <;> cases q
      | ok d b' =>
        rw [q] at hq
        obtain ⟨⟨h1, h2⟩, h3⟩ := hq
        refine hd _ H _ Ω (ar.startW hr ht h1 h2) _ ?_
        rw [e]
        intro H' Ω' ex σ' R' m' v rv
        obtain ⟨b2, z1, z2⟩ := R'.fin0 (by rw [m' 0 (by simp)]; exact hs) q (by simp)
        cases z1
        exact h3 H' Ω' ex R'.trk z2 v rv
    | rto es0 =>
      dsimp only at hq
      cases q : cU δ' (.own es0) with
      | un => rw [q] at hq; exact hq.elim
      | er c => unfold cU at q; split at q <;> cases q
      | ok d b' => unfold cU at q; split at q <;> cases q
      | own es b' =>
        rw [q] at hq
        obtain ⟨⟨h1, h2⟩, h3⟩ := hq
        refine hd _ H _ Ω (ar.startW hr ht h1 h2) _ ?_
        rw [e]
        intro H' Ω' ex σ' R' m' v rv
        obtain ⟨b2, z1, z2⟩ := R'.fin0 (by rw [m' 0 (by simp)]; exact hs) q (by simp)
        cases z1
        exact h3 H' Ω' ex R'.trk z2 v rv
theorem qZ {body : DM Fl} {n : Nat} {b : Bd} {ds : List D} (c : Str) : cY body n b ds ≠ .er c := by
  unfold cY cU
  split
  · split <;> simp
  · split <;> simp
  · split <;> simp
  · simp
theorem fnW {ce : Str → Value} {x qual : Str} {st : Stmt} {f : Addr} {fd : FuncData} {N ps : List Str} {k : Nat} {body : DM Fl} (F : Fun K x qual st f fd) (S : br N ps (aH st))
    (hb : ∀ (cdv : Value) (A : Around) (outer : List Env) (s : Shared) (H : Hp) (E : XK), aU k (A.deeper (envOfC qual (aH st) s.heap.objs.size f cdv)) →
      dN (bJ CX0 P w K mg base N qual (aH st) f cdv A outer s H E).nox EN [0] (bo st) body) : aO P w K mg base CX0 (k + 1) f fd ps (spW K ce ps.length (cY body N.length)) := by
  refine F.ok S (fun vs H Q E h => h.1) (fun cdv A outer s H vs Q E hr h => ?_)
  obtain ⟨ts, p, d⟩ := hb cdv A outer s H E hr
  refine ⟨ts, p, ?_⟩
  obtain ⟨hl, Ω, p, a1, a2, a3, ws, ds, b, ht, rfl, hr, hq⟩ := h
  exact sG d hr ht hq qZ
theorem lL {x qual : Str} {st : Stmt} {f : Addr} {fd : FuncData} {N ps : List Str} {k : Nat} {body : DM Fl} (F : Fun K x qual st f fd) (S : br N ps (aH st))
    (hb : ∀ (cdv : Value) (A : Around) (outer : List Env) (s : Shared) (H : Hp) (E : XK), aU k (A.deeper (envOfC qual (aH st) s.heap.objs.size f cdv)) →
      dN (bJ (Fly P w) P w K mg base N qual (aH st) f cdv A outer s H E) (EX mg E) [0] (bo st) body) : aO P w K mg base (Fly P w) (k + 1) f fd ps (spW K (dj mg) ps.length (fK body N.length)) := by
  obtain ⟨oc, od, kV, doc, pm, an, cdv, ct, osl, rfl, lk, hcd⟩ := F.ex
  refine ql lk hcd S (fun vs H Q E h => h.1) (fun A outer s H vs Q E hr h => ?_)
  obtain ⟨ts, p, d⟩ := hb cdv A outer s H E hr
  refine ⟨ts, p, ?_⟩
  obtain ⟨hl, Ω, p, a1, a2, a3, ws, ds, b, ht, rfl, hr, hq⟩ := h
  unfold fK at hq
  split at hq
  · split at hq
    · rename_i c e
      obtain ⟨h1, h2⟩ := hq
      refine d _ H _ Ω (ar.start (N := N) (ds := b.d :: ds) (au.cons h1.obj hr) ht) _ ?_
      have e' : body (List.map Sl.sh (b.d :: ds) ++ List.replicate (N.length - (b.d :: ds).length) Sl.no) = .er c := e
      rw [e']
      exact h2
    · exact hq.elim
  · exact sG d hr ht hq qZ
end
noncomputable def roR (own : Bool) (r : Ro) (δ : DSt) : Rs DV := match r with
  | .ok d => if (!own || flat d) = true then .ok (.val d) δ else .un
  | .own es => if (!own || cF es) = true then .ok (.own es) δ else .un
  | _ => .un
noncomputable def aX (i n : Nat) (fa : DM (List DV)) (M : List D → Ro) : DM DV := fun δ => if (bR δ i).isSome = true then (fa.bd fun as δ1 => match bY as, bR δ1 i with
  | some ds, some (b, own) => if ds.length + 1 = n then roR own (M (b.d :: ds)) δ1 else .un
  | _, _ => .un) δ else .un
noncomputable def rwW (i : Nat) (own : Bool) (r : Rw) (δ : DSt) : Rs DV := match r with
  | .ok d b' => if own = true then .ok (.val d) (δ.set i b'.sl) else .un
  | .own es b' => if own = true then .ok (.own es) (δ.set i b'.sl) else .un
  | .er c => .er c
  | .un => .un
noncomputable def bz (i n : Nat) (fa : DM (List DV)) (M : Bd → List D → Rw) : DM DV := fun δ => if (bR δ i).isSome = true then (fa.bd fun as δ1 => match bY as, bR δ1 i with
  | some ds, some (b, own) => if ds.length + 1 = n then rwW i own (M b ds) δ1 else .un
  | _, _ => .un) δ else .un
noncomputable def rwX (i : Nat) (own : Bool) (r : Rw) (δ : DSt) : Rs (Sum Str DV) := match r with
  | .ok d b' => if own = true then .ok (.inr (.val d)) (δ.set i b'.sl) else .un
  | .own es b' => if own = true then .ok (.inr (.own es)) (δ.set i b'.sl) else .un
  | .er c => .ok (.inl c) δ
  | .un => .un
noncomputable def fS (i n : Nat) (fa : DM (List DV)) (M : Bd → List D → Rw) : DM (Sum Str DV) := fun δ => if (bR δ i).isSome = true then (fa.bd fun as δ1 => match bY as, bR δ1 i with
  | some ds, some (b, own) => if ds.length + 1 = n then rwX i own (M b ds) δ1 else .un
  | _, _ => .un) δ else .un
section
variable {K : PySem.W.Frag} {E : Str → Hp → Prop} {mg : Str → Option Value} {H : Hp} {Ω : Om} {σ : St} {δ : DSt} {p a1 a2 a3 : Addr} {b : Bd} {own : Bool} {i n : Nat} {as : List DV} {vs : List V} {ds : List D} {ce : Str → Value} {Q : VK} {Ex : XK}
theorem ud {M : List D → Ro} (R : ar K H Ω σ δ) (hb : bI K H Ω (if own then some (i + 2) else none) p a1 a2 a3 b) (r : au K H Ω ds vs) (hn : ds.length + 1 = n) (h : Wg E H Ω (PV K σ Q) (roR own (M (b.d :: ds)) δ)) : spP K ce n M (.ref p :: vs) H Q Ex := by
  have hls : ∀ x, Ω x = none → seen Ω a1 a2 a3 none x = none := kO (.inl rfl)
  refine ⟨by rw [List.length_cons, ← r.length]; exact hn, seen Ω a1 a2 a3 none, b.d :: ds, lb R hb, fun x k q => ?_, .cons (bI.obj (hb.re hls (cq (.inl rfl)) (cq (.inr (.inl rfl))) (cq (.inr (.inr rfl))))) (r.less hls), ?_⟩
  · by_cases hx : bG a1 a2 a3 x
    · rw [cq hx] at q; cases q
    · rw [ie hx] at q; exact oQ x k q
  have lab : ∀ {H' : Hp} {Ω' : Om}, Ext H (seen Ω a1 a2 a3 none) H' Ω' → ∀ x, bG a1 a2 a3 x → Ω' x = none := fun e x hx => by
    obtain ⟨_, u, z2, _⟩ := hb.lab hx
    exact e.new x (cq hx) (by rw [z2]; exact Option.some_ne_none _)
  have hless : own = false → ∀ {H' : Hp} {Ω' : Om}, Ext H (seen Ω a1 a2 a3 none) H' Ω' → ∀ x, Ω' x = none → cw Ω Ω' a1 a2 a3 x = none := fun ho H' Ω' e => mn fun x hx _ => by
    have := (hb.lab hx).1
    rw [ho] at this
    exact this
  cases q3 : M (b.d :: ds) with
  | un => rw [q3] at h; exact h
  | er c => rw [q3] at h; exact h.elim
  | ok d =>
    rw [q3] at h
    unfold roR at h
    dsimp only at h
    split at h
    · rename_i hf
      intro H' Ω' e ht v rv
      refine h H' _ (Ext.cw hb e (.inl rfl)) (R.homeR hb e ht) v ?_
      cases own with
      | true => exact Rep.flat (by simpa using hf) rv
      | false => exact Rep.less (hless rfl e) rv
    · exact h.elim
  | own es =>
    rw [q3] at h
    unfold roR at h
    dsimp only at h
    split at h
    · rename_i hf
      intro H' Ω' e ht v ⟨a, ws, z1, z2, z3, z4⟩
      have ha : ¬ bG a1 a2 a3 a := fun hx => by rw [lab e a hx] at z3; cases z3
      refine h H' _ (Ext.cw hb e (.inl rfl)) (R.homeR hb e ht) v ⟨a, ws, z1, z2, by rw [gW ha]; exact jX z3, ?_⟩
      cases own with
      | true => exact au.flat (by simpa using hf) z4
      | false => exact au.less (hless rfl e) z4
    · exact h.elim
theorem qY {M : Bd → List D → Rw} (R : ar K H Ω σ δ) (hσ : σ[i]? = some (some (.ref p))) (hb : bI K H Ω (if own then some (i + 2) else none) p a1 a2 a3 b) (hne : own = true → a2 ≠ a3) (r : au K H Ω ds vs) (hn : ds.length + 1 = n)
    (hok : ∀ d b', M b ds = .ok d b' → own = true ∧ ∀ H' Ω', Ext H Ω H' Ω' → ar K H' Ω' σ (δ.set i b'.sl) → ∀ v, Rep K H' Ω' d v → Q v H')
    (hown : ∀ es b', M b ds = .own es b' → own = true ∧ ∀ H' Ω', Ext H Ω H' Ω' → ar K H' Ω' σ (δ.set i b'.sl) → ∀ v, cA K H' Ω' σ (.own es) v → Q v H')
    (her : ∀ c, M b ds = .er c → ∀ H' Ω', Ext H Ω H' Ω' → Trk H' Ω' → ar K H' Ω' σ δ → Ex (ce c) none H') (hun : M b ds ≠ .un) : spW K ce n M (.ref p :: vs) H Q Ex := by
  refine ⟨by rw [List.length_cons, ← r.length]; exact hn, ?_⟩
  cases q3 : M b ds with
  | un => exact absurd q3 hun
  | er c =>
    have hls : ∀ x, Ω x = none → seen Ω a1 a2 a3 none x = none := kO (.inl rfl)
    refine ⟨seen Ω a1 a2 a3 none, p, a1, a2, a3, vs, ds, b, lb R hb, rfl, r.less hls, ?_⟩
    rw [q3]
    refine ⟨hb.re hls (cq (.inl rfl)) (cq (.inr (.inl rfl))) (cq (.inr (.inr rfl))), fun H' Ω' e ht => ?_⟩
    have R' := R.homeR hb e ht
    exact her c q3 H' _ (Ext.cw hb e (.inl rfl)) R'.trk R'
  | ok d b' =>
    obtain ⟨ho, h⟩ := hok d b' q3
    subst ho
    have hls : ∀ x, Ω x = none → seen Ω a1 a2 a3 (some 2) x = none := kO (.inr fun x hx => by rw [(hb.lab hx).1]; exact Option.some_ne_none _)
    refine ⟨seen Ω a1 a2 a3 (some 2), p, a1, a2, a3, vs, ds, b, lb R hb, rfl, r.less hls, ?_⟩
    rw [q3]
    refine ⟨⟨hb.re hls (cq (.inl rfl)) (cq (.inr (.inl rfl))) (cq (.inr (.inr rfl))), hne rfl⟩, fun H' Ω' e ht hb' v rv => ?_⟩
    refine h H' _ (Ext.cw hb e (.inr ⟨i + 1, rfl⟩)) (R.homeW hb (hne rfl) hσ e ht hb') v (Rep.less (mn fun x hx q => ?_) rv)
    obtain ⟨c1, c2, c3, hc, _⟩ := eB.pt hb'
    obtain ⟨rfl, rfl, rfl⟩ := (bT.ext (Ext.cw hb e (.inr ⟨i + 1, rfl⟩)) hb.bed).inj hc.bed
    rw [(hc.lab hx).1] at q; cases q
  | own es b' =>
    obtain ⟨ho, h⟩ := hown es b' q3
    subst ho
    have hls : ∀ x, Ω x = none → seen Ω a1 a2 a3 (some 2) x = none := kO (.inr fun x hx => by rw [(hb.lab hx).1]; exact Option.some_ne_none _)
    refine ⟨seen Ω a1 a2 a3 (some 2), p, a1, a2, a3, vs, ds, b, lb R hb, rfl, r.less hls, ?_⟩
    rw [q3]
    refine ⟨⟨hb.re hls (cq (.inl rfl)) (cq (.inr (.inl rfl))) (cq (.inr (.inr rfl))), hne rfl⟩, fun H' Ω' e ht hb' v ⟨a, ws, z1, z2, z3, z4⟩ => ?_⟩
    obtain ⟨c1, c2, c3, hc, _⟩ := eB.pt hb'
    obtain ⟨rfl, rfl, rfl⟩ := (bT.ext (Ext.cw hb e (.inr ⟨i + 1, rfl⟩)) hb.bed).inj hc.bed
    have ha : ¬ bG a1 a2 a3 a := fun hx => by rw [(hc.lab hx).1] at z3; cases z3
    exact h H' _ (Ext.cw hb e (.inr ⟨i + 1, rfl⟩)) (R.homeW hb (hne rfl) hσ e ht hb') v ⟨a, ws, z1, z2, by rw [gW ha]; exact jX z3, z4.less (mn fun x hx q => by rw [(hc.lab hx).1] at q; cases q)⟩
end
end DL
namespace DL
open PySem PySem.Spec PyProof.Rows L2
structure aV (K : PySem.W.Frag) (C : Addr) : Prop where
  ns : PySem.W.nsIn K mainGlobals "Bed" = some (some (.ref C))
  cl : Cls K C
  n1 : fW K C "borne"
  n2 : fW K C "knitted"
  n3 : fW K C "past"
noncomputable abbrev dw (a1 a2 a3 : Addr) : List (Str × V) := [("borne", .ref a1), ("knitted", .ref a2), ("past", .ref a3)]
theorem j6 {m k : Str} {v : V} {l : List (Str × V)} (h : (m == k) = false) : ((k, v) :: l).lookup m = l.lookup m := by rw [List.lookup_cons, h]
theorem oz {k : Str} {v : V} {l : List (Str × V)} : ((k, v) :: l).lookup k = some v := by rw [List.lookup_cons, beq_self_eq_true]
theorem bf1 {a1 a2 a3 : Addr} : (dw a1 a2 a3).lookup ("borne" : Str) = some (V.ref a1) := oz
theorem bf2 {a1 a2 a3 : Addr} : (dw a1 a2 a3).lookup ("knitted" : Str) = some (V.ref a2) := by rw [j6 (by decide +kernel)]; exact oz
theorem bf3 {a1 a2 a3 : Addr} : (dw a1 a2 a3).lookup ("past" : Str) = some (V.ref a3) := by rw [j6 (by decide +kernel), j6 (by decide +kernel)]; exact oz
noncomputable def fG (m : Str) : Prop := (m == ("borne" : Str)) = false ∧ (m == ("knitted" : Str)) = false ∧ (m == ("past" : Str)) = false
theorem fG.none {m : Str} (h : fG m) (a1 a2 a3 : Addr) : (dw a1 a2 a3).lookup m = none := by rw [j6 h.1, j6 h.2.1, j6 h.2.2]; rfl
theorem bT.ins {K : PySem.W.Frag} {H : Hp} {C p a1 a2 a3 : Addr} (T : aV K C) (h : bT K H p a1 a2 a3) : ∃ dx, H p = some (.ins C dx (dw a1 a2 a3)) := by
  obtain ⟨C', dx, h1, h2⟩ := h
  rw [T.ns] at h1
  cases h1
  exact ⟨dx, h2⟩
section
variable {K : PySem.W.Frag} {E : Str → Hp → Prop} {mg : Str → Option Value} {C : Addr} {m : Str} {i n : Nat} {ce : Str → Value} {Ex : XK} {t : TA} {fa : DM (List DV)}
theorem pD {M : List D → Ro} (T : aV K C) (hm : fG m) (ha : DA K E t fa) : DE K E (my C m (spP K ce n M) [] Ex (eV i) t) (aX i n fa M) := by
  intro σ H δ Ω R Q h
  unfold aX at h
  split at h
  · rename_i hs
    obtain ⟨⟨b0, own0⟩, hb0⟩ := Option.isSome_iff_exists.mp hs
    obtain ⟨p, a1, a2, a3, e0, hp, _⟩ := dF R hb0
    obtain ⟨dx, hi⟩ := hp.bed.ins T
    refine ⟨.ref p, e0, p, dx, _, rfl, hi, hm.none _ _ _, ?_⟩
    refine ha.use R h fun as vs δ1 H1 Ω1 _ s1 R1 r1 h1 => ?_
    (try dsimp only at h1)
    split at h1
    · rename_i ds b own q1 q2
      split at h1
      · rename_i hn
        obtain ⟨p', c1, c2, c3, e1, hp1, _⟩ := dF R1 q2
        rw [e0] at e1
        cases e1
        rw [List.append_nil]
        exact ud R1 hp1 (r1.vals q1) hn h1
      · exact h1.elim
    · exact h1.elim
  · exact h.elim
theorem ym {M : List D → Ro} (ha : DA K E t fa) : DE K E (ji (spP K ce n M) [] Ex (jS (eV i) t)) (aX i n fa M) := by
  intro σ H δ Ω R Q h
  unfold aX at h
  split at h
  · rename_i hs
    obtain ⟨⟨b0, own0⟩, hb0⟩ := Option.isSome_iff_exists.mp hs
    obtain ⟨p, a1, a2, a3, e0, hp, _⟩ := dF R hb0
    refine ⟨.ref p, e0, ?_⟩
    refine ha.use R h fun as vs δ1 H1 Ω1 _ s1 R1 r1 h1 => ?_
    (try dsimp only at h1)
    split at h1
    · rename_i ds b own q1 q2
      split at h1
      · rename_i hn
        obtain ⟨p', c1, c2, c3, e1, hp1, _⟩ := dF R1 q2
        rw [e0] at e1
        cases e1
        rw [List.append_nil]
        exact ud R1 hp1 (r1.vals q1) hn h1
      · exact h1.elim
    · exact h1.elim
  · exact h.elim
theorem sU {M : Bd → List D → Rw} {σ : St} {H : Hp} {δ : DSt} {Ω : Om} {Q : VK} {b : Bd} {own : Bool} {p a1 a2 a3 : Addr} {vs : List V} {ds : List D} (hE : ∀ c H', E c H' → Ex (ce c) none H') (R : ar K H Ω σ δ) (hσ : σ[i]? = some (some (.ref p)))
    (hb : bI K H Ω (if own then some (i + 2) else none) p a1 a2 a3 b) (hne : own = true → a2 ≠ a3) (r : au K H Ω ds vs) (hn : ds.length + 1 = n) (h : Wg E H Ω (PV K σ Q) (rwW i own (M b ds) δ)) : spW K ce n M (.ref p :: vs) H Q Ex := by
  refine qY R hσ hb hne r hn (fun d b' q => ?_) (fun es b' q => ?_) (fun c q H' Ω' e t R' => ?_) fun q => ?_
  · rw [q] at h
    unfold rwW at h
    dsimp only at h
    split at h
    · rename_i ho; exact ⟨ho, fun H' Ω' e R' v rv => h H' Ω' e R' v rv⟩
    · exact h.elim
  · rw [q] at h
    unfold rwW at h
    dsimp only at h
    split at h
    · rename_i ho; exact ⟨ho, fun H' Ω' e R' v rv => h H' Ω' e R' v rv⟩
    · exact h.elim
  · rw [q] at h
    exact hE c H' (h H' Ω' e t)
  · rw [q] at h
    exact h
theorem sT {M : Bd → List D → Rw} (T : aV K C) (hm : fG m) (hE : ∀ c H', E c H' → Ex (ce c) none H') (ha : DA K E t fa) : DE K E (my C m (spW K ce n M) [] Ex (eV i) t) (bz i n fa M) := by
  intro σ H δ Ω R Q h
  unfold bz at h
  split at h
  · rename_i hs
    obtain ⟨⟨b0, own0⟩, hb0⟩ := Option.isSome_iff_exists.mp hs
    obtain ⟨p, a1, a2, a3, e0, hp, _⟩ := dF R hb0
    obtain ⟨dx, hi⟩ := hp.bed.ins T
    refine ⟨.ref p, e0, p, dx, _, rfl, hi, hm.none _ _ _, ?_⟩
    refine ha.use R h fun as vs δ1 H1 Ω1 _ s1 R1 r1 h1 => ?_
    (try dsimp only at h1)
    split at h1
    · rename_i ds b own q1 q2
      split at h1
      · rename_i hn
        obtain ⟨p', c1, c2, c3, e1, hp1, hne⟩ := dF R1 q2
        have e2 := e1
        rw [e0] at e1
        cases e1
        rw [List.append_nil]
        exact sU hE R1 e2 hp1 hne (r1.vals q1) hn h1
      · exact h1.elim
    · exact h1.elim
  · exact h.elim
theorem xi {M : Bd → List D → Rw} (hE : ∀ c H', E c H' → Ex (ce c) none H') (ha : DA K E t fa) : DE K E (ji (spW K ce n M) [] Ex (jS (eV i) t)) (bz i n fa M) := by
  intro σ H δ Ω R Q h
  unfold bz at h
  split at h
  · rename_i hs
    obtain ⟨⟨b0, own0⟩, hb0⟩ := Option.isSome_iff_exists.mp hs
    obtain ⟨p, a1, a2, a3, e0, hp, _⟩ := dF R hb0
    refine ⟨.ref p, e0, ?_⟩
    refine ha.use R h fun as vs δ1 H1 Ω1 _ s1 R1 r1 h1 => ?_
    (try dsimp only at h1)
    split at h1
    · rename_i ds b own q1 q2
      split at h1
      · rename_i hn
        obtain ⟨p', c1, c2, c3, e1, hp1, hne⟩ := dF R1 q2
        have e2 := e1
        rw [e0] at e1
        cases e1
        rw [List.append_nil]
        exact sU hE R1 e2 hp1 hne (r1.vals q1) hn h1
      · exact h1.elim
    · exact h1.elim
  · exact h.elim
end
structure MethP (P : Program) (w : World) (K : PySem.W.Frag) (mg : Str → Option Value) (base : Heap) (C : Addr) (k : Nat) (m : Str) (n : Nat) (M : List D → Ro) : Prop where
  ex : ∃ (f : Addr) (fd : FuncData) (ps : List Str), aO P w K mg base CX0 k f fd ps (spP K (fun _ => .none) n M) ∧ Meth K C m f ∧ Binds K fd ps []
structure MethW (P : Program) (w : World) (K : PySem.W.Frag) (mg : Str → Option Value) (base : Heap) (C : Addr) (k : Nat) (m : Str) (n : Nat) (M : Bd → List D → Rw) : Prop where
  ex : ∃ (f : Addr) (fd : FuncData) (ps : List Str), aO P w K mg base CX0 k f fd ps (spW K (fun _ => .none) n M) ∧ Meth K C m f ∧ Binds K fd ps []
structure fJ (P : Program) (w : World) (K : PySem.W.Frag) (mg : Str → Option Value) (base : Heap) (C : Addr) (k : Nat) (m : Str) (n : Nat) (M : Bd → List D → Rw) : Prop where
  ex : ∃ (f : Addr) (fd : FuncData) (ps : List Str), aO P w K mg base (Fly P w) k f fd ps (spW K (dj mg) n M) ∧ Meth K C m f ∧ Binds K fd ps []
structure lg (P : Program) (w : World) (K : PySem.W.Frag) (mg : Str → Option Value) (base : Heap) (k : Nat) (x : Str) (n : Nat) (M : Bd → List D → Rw) : Prop where
  ex : ∃ (f : Addr) (fd : FuncData) (ps : List Str), aO P w K mg base CX0 k f fd ps (spW K (fun _ => .none) n M) ∧ mg x = some (.ref f) ∧ PySem.W.keepIn K (.ref f) = true ∧ Binds K fd ps []
section
variable {X : Cx} {E : Str → Hp → Prop} {E0 : XK} {pos apos p : Pos} {e : Expr} {es : List Expr} {C : Addr} {k n : Nat} {x m : Str} {r : DM (List DV)}
theorem fI (i : Nat) {M : List D → Ro} {pl : Sem Bool} (T : aV X.K C) (F : MethP X.prog X.w X.K X.mg X.base C k m n M) (hr : aU k X.A) (ha : PAD X E (e :: es) r) (hf : fG m := by exact ⟨by decide +kernel, by decide +kernel, by decide +kernel⟩)
    (hN : X.N[i]? = some x := by rfl) (hv : Vis X.env.scope x := by first | exact Or.inl rfl | exact Or.inr (Or.inl rfl) | exact Or.inr (Or.inr rfl)) (hd : (x == ("__debug__" : Str)) = false := by decide) (hcd : (x == ("__classdict__" : Str)) = false := by decide)
    (hst : starEach (e :: es) X.env = (false, eval e X.env) :: starEach es X.env := by rfl) (hpl : (backTo pos (starEach es X.env)).any (·.1) = false := by rfl)
    (ht : eval (.Call (.Attribute (.Name x p) m apos) (e :: es) [] pos) X.env = (do
      let ov ← eval (.Name x p) X.env
      standAt apos.atName
      let (f, first) ← holding [ov] (getMethod ov m pl)
      callWith pos f first (backTo pos (starEach (e :: es) X.env)) (backToKw pos (keywordEach [] X.env))) := by rfl) :
    PED X E (.Call (.Attribute (.Name x p) m apos) (e :: es) [] pos) (aX i n r M) := by
  obtain ⟨f, fd, ps, F, hm, b⟩ := F.ex
  obtain ⟨t, q, d⟩ := ha
  exact ⟨_, oX (pl := pl) (pv i hN hv hd hcd) T.cl hm F hr b .nil gz q hst hpl ht, pD T hf d⟩
theorem lQ (i : Nat) {M : List D → Ro} {pl : Sem Bool} (T : aV X.K C) (F : MethP X.prog X.w X.K X.mg X.base C k m n M) (hr : aU k X.A) (hf : fG m := by exact ⟨by decide +kernel, by decide +kernel, by decide +kernel⟩)
    (hN : X.N[i]? = some x := by rfl) (hv : Vis X.env.scope x := by first | exact Or.inl rfl | exact Or.inr (Or.inl rfl) | exact Or.inr (Or.inr rfl)) (hd : (x == ("__debug__" : Str)) = false := by decide) (hcd : (x == ("__classdict__" : Str)) = false := by decide)
    (ht : eval (.Call (.Attribute (.Name x p) m apos) [] [] pos) X.env = (do
      let ov ← eval (.Name x p) X.env
      standAt apos.atName
      let (f, first) ← holding [ov] (getMethod ov m pl)
      callWith pos f first (backTo pos (starEach [] X.env)) (backToKw pos (keywordEach [] X.env))) := by rfl) :
    PED X E (.Call (.Attribute (.Name x p) m apos) [] [] pos) (aX i n ah M) := by
  obtain ⟨f, fd, ps, F, hm, b⟩ := F.ex
  exact ⟨_, xJ (pl := pl) (pv i hN hv hd hcd) T.cl hm F hr b .nil gz ht, pD T hf rQ⟩
theorem ub (i : Nat) {M : List D → Ro} {y : Str} {p2 : Pos} (F : cc X.prog X.w X.K X.mg X.base k x n M) (hr : aU k X.A) (ha : PAD X E es r) (hN : X.N[i]? = some y := by rfl) (hv : Vis X.env.scope y := by first | exact Or.inl rfl | exact Or.inr (Or.inl rfl) | exact Or.inr (Or.inr rfl)) (hd : (y == ("__debug__" : Str)) = false := by decide) (hcd : (y == ("__classdict__" : Str)) = false := by decide)
    (hg : Gl X x := by rfl) (hdb : (x == ("__debug__" : Str)) = false := by decide) (he : starEach (.Name y p2 :: es) X.env = (false, eval (.Name y p2) X.env) :: starEach es X.env := by rfl) (hpl : (backTo pos (starEach es X.env)).any (·.1) = false := by rfl) :
    PED X E (.Call (.Name x p) (.Name y p2 :: es) [] pos) (aX i n r M) := by
  obtain ⟨fa, fd, ps, F, hm, kp, b⟩ := F.ex
  obtain ⟨t, q, d⟩ := ha
  exact ⟨_, lO F hr hg hm kp b .nil gz (dX (pv i hN hv hd hcd) q he) hdb he hpl, ym d⟩
theorem nY (i : Nat) {M : Bd → List D → Rw} {y : Str} {p2 : Pos} (F : lg X.prog X.w X.K X.mg X.base k x n M) (hr : aU k X.A) (ha : PAD X EN es r) (hN : X.N[i]? = some y := by rfl) (hv : Vis X.env.scope y := by first | exact Or.inl rfl | exact Or.inr (Or.inl rfl) | exact Or.inr (Or.inr rfl)) (hd : (y == ("__debug__" : Str)) = false := by decide) (hcd : (y == ("__classdict__" : Str)) = false := by decide)
    (hg : Gl X x := by rfl) (hdb : (x == ("__debug__" : Str)) = false := by decide) (he : starEach (.Name y p2 :: es) X.env = (false, eval (.Name y p2) X.env) :: starEach es X.env := by rfl) (hpl : (backTo pos (starEach es X.env)).any (·.1) = false := by rfl) :
    PED X EN (.Call (.Name x p) (.Name y p2 :: es) [] pos) (bz i n r M) := by
  obtain ⟨fa, fd, ps, F, hm, kp, b⟩ := F.ex
  obtain ⟨t, q, d⟩ := ha
  exact ⟨_, lO F hr hg hm kp b .nil gz (dX (pv i hN hv hd hcd) q he) hdb he hpl, xi (fun _ _ z => z.elim) d⟩
end
end DL
namespace L2
open PySem PySem.Spec PyProof.Rows
section
variable {X : Cx}
theorem vi : OpR X (binaryOp .Add) (fun x y H Q => ∃ a b ys, x = .ref a ∧ y = .ref b ∧ SqT X.K H a [] ∧ SqT X.K H b ys ∧ Q (.ref b) H) := by
  intro pins s σ H x y v u Q I rx ry h
  obtain ⟨a, b, ys, rfl, rfl, ha, hb, q⟩ := h
  cases rx
  cases ry
  obtain ⟨its, r1, p1, _⟩ := I.tuple ha
  obtain ⟨its2, r2, p2, _⟩ := I.tuple hb
  have hn : its = [] := r1.nil_iff.mpr rfl
  subst hn
  obtain ⟨⟨cls, dd, data, sl⟩, ho, hc, n, hd⟩ := id p1
  obtain ⟨⟨cls2, dd2, data2, sl2⟩, ho2, hc2, n2, hd2⟩ := id p2
  simp only at hc hd hc2 hd2
  subst hc hd hc2 hd2
  exact concat_meets ⟨_, ho, rfl⟩ ⟨_, ho2, rfl⟩ noFill_tuple_add seq_tuple_add PySem.F.slot_tuple_add PySem.F.entry_tuple_add (PySem.F.args_tuple_add_2 _ _) (tuple_addW0 a b _ _ n n2 dd dd2 sl sl2 rfl) ⟨ho, ho2, ⟨.ref b, H, I, rfl, q⟩⟩
theorem yZ : el X (.builtin "abs") (fun xs H Q => ∃ i, xs = [.int i] ∧ Q (.int (if i < 0 then -i else i)) H) := by
  intro pins s σ H xs us Q I r h
  obtain ⟨i, rfl, q⟩ := h
  obtain ⟨u, rfl, t, rfl⟩ := vals1 r
  exact call_abs_int fun u tk => ⟨.int _, H, I.tok tk, ⟨_, rfl⟩, q⟩
noncomputable def gK (kvs : List (Str × Str)) : List (Str × KTD.Dat) := kvs.map fun p => (p.1, KTD.Dat.flat (.str p.2))
noncomputable def ka (K : PySem.W.Frag) (a : Addr) (kvs : List (Str × Str)) : Prop :=
  KTD.tabLook (KTD.datLooks fun b => K.lookup b) (fun b => K.lookup b) a (gK kvs) = true
noncomputable def gT (k : Str) : List (Str × Str) → Option Str
  | [] => none
  | (x, n) :: r => if decide (k = x) = true then some n else gT k r
theorem rL (k : Str) : ∀ kvs : List (Str × Str), KTD.inKeys k (gK kvs) = (gT k kvs).isSome
  | [] => rfl
  | (x, n) :: r => by
    have ih := rL k r
    change (decide (k = x) || KTD.inKeys k (gK r)) = (if decide (k = x) = true then some n else gT k r).isSome
    rw [ih]
    cases decide (k = x) <;> rfl
theorem ka.here {K : PySem.W.Frag} {a : Addr} {kvs : List (Str × Str)} {s : Shared} (T : ka K a kvs) (x : K.In s.heap) : KTD.Here s.heap s.heap a (gK kvs) := ⟨PySem.W.kt_text_in x T, fun _ _ e => e⟩
theorem sN {h : Heap} {k : Str} {P : Value → Prop} {n : Str} : ∀ {kvs : List (Str × Str)}, gT k kvs = some n → (∀ t, P (.str n t)) → KTD.EachL h k P (gK kvs)
  | [], e, _ => by cases e
  | (x, m) :: r, e, hp => by
    have e : (if decide (k = x) = true then some m else gT k r) = some n := e
    by_cases hx : k = x
    · rw [if_pos (decide_eq_true hx)] at e
      cases e
      exact KTD.eachL_hit hx (KTD.opened_str hp)
    · rw [if_neg (by simp [hx])] at e
      exact KTD.eachL_miss hx (sN e hp)
theorem zi : IxR X (fun x y H Q => ∃ k a kvs n, x = .ref a ∧ y = .str k ∧ ka X.K a kvs ∧ gT k kvs = some n ∧ Q (.str n) H) := by
  intro value slice pins s σ H x y v u Q I rx ry h hs
  obtain ⟨k, a, kvs, n, rfl, rfl, T, e, q⟩ := h
  obtain ⟨t, rfl⟩ := ry
  cases rx
  refine KTD.item_textA (T.here I.kIn) ?_ (by rw [rL, e]; rfl) (sN e fun t' => ⟨.str n, H, I.tok _, ⟨_, rfl⟩, q⟩) hs
  unfold gK
  rw [List.all_map]
  exact List.all_eq_true.mpr fun _ _ => rfl
end
end L2
namespace L2
open PySem PySem.Spec PyProof.Rows
section
variable {X : Cx}
end
end L2
namespace DL
open PySem PySem.Spec PyProof.Rows L2
noncomputable def fR (i j : Nat) : DM DV := fun δ => match δ[i]? with
  | some (.ob _ _ _ _) => .ok (.fld i j) δ
  | some (.sh (.obj _ _ as bs)) => if j = 1 then .ok (.val (.lst as)) δ else .ok (.val (.lst bs)) δ
  | _ => .un
section
variable {X : Cx} {E : Str → Hp → Prop} {pos apos cpos p : Pos} {e e1 e2 : Expr} {f f1 f2 : DM DV} {C : Addr} {x : Str} {mp : List Nat}
theorem pO (i : Nat) (T : aV X.K C) (hN : X.N[i]? = some x := by rfl) (hv : Vis X.env.scope x := by first | exact Or.inl rfl | exact Or.inr (Or.inl rfl) | exact Or.inr (Or.inr rfl)) (hd : (x == ("__debug__" : Str)) = false := by decide) (hcd : (x == ("__classdict__" : Str)) = false := by decide)
    (hb : attributeBase (.Name x p) "knitted" X.env (eval (.Name x p) X.env) = eval (.Name x p) X.env := by rfl) : PED X E (.Attribute (.Name x p) "knitted" pos) (fR i 1) := by
  refine ⟨_, j5 (pv i hN hv hd hcd) hb, fun σ H δ Ω R Q h => ?_⟩
  unfold fR at h
  split at h
  · rename_i ks vs as bs hs
    obtain ⟨q, e0, ho⟩ := R.sl i _ hs
    obtain ⟨a1, a2, a3, kvs, xs, ys, hb, h2⟩ := ho
    obtain ⟨dx, hi⟩ := hb.ins T
    exact ⟨.ref q, join_some e0, q, C, dx, _, .ref a2, rfl, hi, T.cl, T.n2, bf2, h.now R ⟨q, a1, a2, a3, join_some e0, hb, .inl ⟨rfl, rfl⟩⟩⟩
  · rename_i ks vs as bs hs
    obtain ⟨v, e0, hv⟩ := R.sl i _ hs
    obtain ⟨q, a1, a2, a3, kvs, xs, ys, z0, hb, z1, z2, z3, z4, z5, z6, z7⟩ := (show ∃ p a1 a2 a3 kvs xs ys, _ from hv)
    subst z0
    obtain ⟨dx, hi⟩ := hb.ins T
    rw [if_pos rfl] at h
    exact ⟨.ref q, join_some e0, q, C, dx, _, .ref a2, rfl, hi, T.cl, T.n2, bf2, h.now R (show ∃ a vs, _ from ⟨a2, xs, rfl, ⟨.inl z2.1, z2.2⟩, z6⟩)⟩
  · exact h.elim
theorem zl (i : Nat) (T : aV X.K C) (hN : X.N[i]? = some x := by rfl) (hv : Vis X.env.scope x := by first | exact Or.inl rfl | exact Or.inr (Or.inl rfl) | exact Or.inr (Or.inr rfl)) (hd : (x == ("__debug__" : Str)) = false := by decide) (hcd : (x == ("__classdict__" : Str)) = false := by decide)
    (hb : attributeBase (.Name x p) "past" X.env (eval (.Name x p) X.env) = eval (.Name x p) X.env := by rfl) : PED X E (.Attribute (.Name x p) "past" pos) (fR i 2) := by
  refine ⟨_, j5 (pv i hN hv hd hcd) hb, fun σ H δ Ω R Q h => ?_⟩
  unfold fR at h
  split at h
  · rename_i ks vs as bs hs
    obtain ⟨q, e0, ho⟩ := R.sl i _ hs
    obtain ⟨a1, a2, a3, kvs, xs, ys, hb, h2⟩ := ho
    obtain ⟨dx, hi⟩ := hb.ins T
    exact ⟨.ref q, join_some e0, q, C, dx, _, .ref a3, rfl, hi, T.cl, T.n3, bf3, h.now R ⟨q, a1, a2, a3, join_some e0, hb, .inr ⟨rfl, rfl⟩⟩⟩
  · rename_i ks vs as bs hs
    obtain ⟨v, e0, hv⟩ := R.sl i _ hs
    obtain ⟨q, a1, a2, a3, kvs, xs, ys, z0, hb, z1, z2, z3, z4, z5, z6, z7⟩ := (show ∃ p a1 a2 a3 kvs xs ys, _ from hv)
    subst z0
    obtain ⟨dx, hi⟩ := hb.ins T
    rw [if_neg (by decide)] at h
    exact ⟨.ref q, join_some e0, q, C, dx, _, .ref a3, rfl, hi, T.cl, T.n3, bf3, h.now R (show ∃ a vs, _ from ⟨a3, ys, rfl, ⟨.inl z3.1, z3.2⟩, z7⟩)⟩
  · exact h.elim
noncomputable def kF (f : DM DV) : DM Bool := (fN f).bd fun a δ => match res δ a with
  | some (.lst ds) => .ok (!ds.isEmpty) δ
  | some (.tup ds) => .ok (!ds.isEmpty) δ
  | _ => .un
theorem rA {K : PySem.W.Frag} {H : Hp} {Ω : Om} {ds : List D} {vs : List V} (r : au K H Ω ds vs) : vs.isEmpty = ds.isEmpty := by
  have := r.length
  cases ds <;> cases vs <;> simp at this <;> rfl
theorem tJ (ha : PED X E e f) (he : ∀ whole, isTrue e X.env whole = (do let v ← whole; standAt e.pos; holding [v] (truthy v)) := by intro _; rfl) : PTD X E e (kF f) := by
  obtain ⟨t, q, d⟩ := ha
  refine ⟨_, uy q he, fun σ H δ Ω R Q h => ?_⟩
  refine d.use R h fun a y δ1 H1 Ω1 _ s1 R1 r1 h1 => ?_
  (try dsimp only at h1)
  split at h1
  · rename_i ds q1
    obtain ⟨b, vs, z1, z2, z3⟩ := r1.res R1 q1
    subst z1
    exact ⟨_, .inl ⟨vs, .inl z2, rfl⟩, by rw [rA z3]; exact h1.nowB R1⟩
  · rename_i ds q1
    obtain ⟨b, vs, z1, z2, z3⟩ := (show ∃ a vs, _ from r1.res R1 q1)
    subst z1
    exact ⟨_, .inr (.inl ⟨vs, z2, rfl⟩), by rw [rA z3]; exact h1.nowB R1⟩
  · exact h1.elim
noncomputable def gn (fa : DM (List DV)) : DM DV := fa.bd fun as δ => match bY as with
  | some [.str r, .int n] => .ok (.val (.key r n)) δ
  | _ => .un
theorem ll {es : List Expr} {r : DM (List DV)} {k : Nat} (h : PAD X E es r) : PED X E (.Tuple es k pos) (gn r) := by
  obtain ⟨t, q, d⟩ := h
  refine ⟨_, nZ q, fun σ H δ Ω R Q h => ?_⟩
  refine d.use R h fun as vs δ1 H1 Ω1 _ s1 R1 r1 h1 => ?_
  (try dsimp only at h1)
  split at h1
  · rename_i rr nn q1
    have rv := r1.vals q1
    obtain ⟨v1, r2, z1, z2, z3⟩ := (show ∃ v r, _ from rv)
    obtain ⟨v2, r3, z4, z5, z6⟩ := (show ∃ v r, _ from z3)
    cases (show r3 = [] from z6)
    cases (show v1 = .str rr from z2)
    cases (show v2 = .int nn from z5)
    subst z4 z1
    refine ⟨by change 2 ≤ sizeLine; decide, fun p hp => ?_⟩
    exact h1 _ Ω1 (.alloc hp R1.trk) (R1.alloc hp) _ (show ∃ a, _ from ⟨p, rfl, aT⟩)
  · exact h1.elim
end
noncomputable def bX : List (Str × Int) → List D → Str × Int → Option D
  | k :: ks, v :: vs, q => if k = q then some v else bX ks vs q
  | _, _, _ => none
noncomputable def fA : List (Str × Int) → List D → Str × Int → D → List D
  | k :: ks, v :: vs, q, d => (if k = q then d else v) :: fA ks vs q d
  | _, vs, _, _ => vs
noncomputable def bE (ks : List (Str × Int)) (q : Str × Int) : List (Str × Int) := if q ∈ ks then ks else ks ++ [q]
noncomputable def cu (ks : List (Str × Int)) (vs : List D) (q : Str × Int) (d : D) : List D := if q ∈ ks then fA ks vs q d else vs ++ [d]
theorem o5 {p q : Str × Int} (h : bP p = bP q) : p = q := by
  unfold bP at h
  injection h with h1 h2
  injection h2 with h2
  injection h1 with h1
  injection h2 with h2
  exact Prod.ext h1 h2
section
variable {K : PySem.W.Frag} {H : Hp} {Ω : Om}
theorem ra : ∀ {ks : List (Str × Int)} {vs : List D} {kvs : List (List Key × V)} (q : Str × Int), kvs.map (·.1) = ks.map bP → au K H Ω vs (kvs.map (·.2)) →
    (∃ d v, bX ks vs q = some d ∧ dD kvs (bP q) = some v ∧ Rep K H Ω d v) ∨ (bX ks vs q = none ∧ dD kvs (bP q) = none)
  | [], _, [], _, _, _ => .inr ⟨by unfold bX; rfl, rfl⟩
  | [], _, _ :: _, _, h, _ => by cases h
  | _ :: _, _, [], _, h, _ => by cases h
  | k :: ks, vs, c :: kvs, q, h, r => by
    rw [List.map_cons, List.map_cons] at h
    injection h with h1 h2
    rw [List.map_cons] at r
    cases vs with
    | nil => cases (show _ = [] from r)
    | cons d vs =>
      obtain ⟨v, r2, z1, z2, z3⟩ := (show ∃ v r, _ from r)
      injection z1 with z1 z4
      subst z1 z4
      by_cases e : k = q
      · subst e
        left
        exact ⟨d, c.2, by unfold bX; rw [if_pos rfl], lU h1, z2⟩
      · have ne : ¬ c.1 = bP q := fun z => e (o5 (by rw [← h1]; exact z))
        have hl : bX (k :: ks) (d :: vs) q = bX ks vs q := by
          change (if k = q then some d else bX ks vs q) = _
          rw [if_neg e]
        rw [hl, ma ne]
        exact ra q h2 z3
theorem oH {q : Str × Int} : ∀ {ks : List (Str × Int)} {kvs : List (List Key × V)}, kvs.map (·.1) = ks.map bP → ((kvs.any fun kv => decide (kv.1 = bP q)) = true ↔ q ∈ ks)
  | [], [], _ => by simp
  | [], _ :: _, h => by cases h
  | _ :: _, [], h => by cases h
  | k :: ks, c :: kvs, h => by
    rw [List.map_cons, List.map_cons] at h
    injection h with h1 h2
    have ih := oH (q := q) h2
    rw [List.any_cons, Bool.or_eq_true, ih, List.mem_cons]
    constructor
    · rintro (z | z)
      · exact .inl (o5 (by rw [← h1]; exact (of_decide_eq_true z).symm))
      · exact .inr z
    · rintro (z | z)
      · exact .inl (decide_eq_true (by rw [h1, z]))
      · exact .inr z
theorem pU {q : Str × Int} {d : D} {v : V} (rv : Rep K H Ω d v) : ∀ {ks : List (Str × Int)} {vs : List D} {kvs : List (List Key × V)}, kvs.map (·.1) = ks.map bP → au K H Ω vs (kvs.map (·.2)) →
    (kvs.map fun kv => if kv.1 = bP q then (kv.1, v) else kv).map (·.1) = ks.map bP ∧ au K H Ω (fA ks vs q d) ((kvs.map fun kv => if kv.1 = bP q then (kv.1, v) else kv).map (·.2))
  | [], vs, [], _, r => ⟨rfl, by cases vs with | nil => exact .nil | cons _ _ => obtain ⟨_, _, z, _⟩ := (show ∃ v r, _ from r); cases z⟩
  | [], _, _ :: _, h, _ => by cases h
  | _ :: _, _, [], h, _ => by cases h
  | k :: ks, vs, c :: kvs, h, r => by
    rw [List.map_cons, List.map_cons] at h
    injection h with h1 h2
    rw [List.map_cons] at r
    cases vs with
    | nil => cases (show _ = [] from r)
    | cons d0 vs =>
      obtain ⟨v0, r2, z1, z2, z3⟩ := (show ∃ v r, _ from r)
      injection z1 with z1 z4
      subst z1 z4
      obtain ⟨i1, i2⟩ := pU rv h2 z3
      rw [List.map_cons, List.map_cons, List.map_cons, List.map_cons, i1]
      by_cases e : k = q
      · subst e
        rw [if_pos h1]
        refine ⟨by rw [h1], ?_⟩
        change au K H Ω ((if k = k then d else d0) :: fA ks vs k d) _
        rw [if_pos rfl]
        exact .cons rv i2
      · have ne : ¬ c.1 = bP q := fun z => e (o5 (by rw [← h1]; exact z))
        rw [if_neg ne]
        refine ⟨by rw [h1], ?_⟩
        change au K H Ω ((if k = q then d else d0) :: fA ks vs q d) _
        rw [if_neg e]
        exact .cons z2 i2
theorem xr {q : Str × Int} {d : D} {v : V} {ks : List (Str × Int)} {vs : List D} {kvs : List (List Key × V)} (rv : Rep K H Ω d v) (h : kvs.map (·.1) = ks.map bP) (r : au K H Ω vs (kvs.map (·.2))) :
    (putK kvs (bP q) v).map (·.1) = (bE ks q).map bP ∧ au K H Ω (cu ks vs q d) ((putK kvs (bP q) v).map (·.2)) := by
  unfold putK bE cu
  by_cases e : q ∈ ks
  · rw [if_pos ((oH h).mpr e), if_pos e, if_pos e]
    exact pU rv h r
  · rw [if_neg (fun z => e ((oH h).mp z)), if_neg e, if_neg e, List.map_append, List.map_append, List.map_append]
    exact ⟨by rw [h]; rfl, r.append (.cons rv .nil)⟩
end
noncomputable def kX (i : Nat) (f : DM DV) : DM DV := fun δ => if (bR δ i).isSome = true then ((fN f).bd fun a δ1 => match res δ1 a, bR δ1 i with
  | some (.key r n), some (b, _) => .ok (.val ((bX b.ks b.vs (r, n)).getD (.tup []))) δ1
  | _, _ => .un) δ else .un
noncomputable def fY (i : Nat) (δ : DSt) : Bool := match δ[i]? with | some (.ob _ _ _ _) => true | _ => false
noncomputable def ix (i : Nat) (f2 f1 : DM DV) : DM Fl := (fN f2).bd fun a2 => match a2 with
  | .val d => fun δ => if fY i δ then ((fN f1).bd fun a1 δ1 => match res δ1 a1, δ1[i]? with
    | some (.key r n), some (.ob ks vs as bs) => if ks.length < sizeLine then .ok .nx (δ1.set i (.ob (bE ks (r, n)) (cu ks vs (r, n) d) as bs)) else .un
    | _, _ => .un) δ else .un
  | _ => fun _ => .un
section
variable {X : Cx} {E : Str → Hp → Prop} {pos apos cpos bpos p p' : Pos} {e e1 e2 : Expr} {f f1 f2 : DM DV} {C : Addr} {x : Str} {mp : List Nat}
theorem zF (i : Nat) {kk : Nat} {tpos : Pos} (T : aV X.K C) (hu : X.A.units + 1 < cLine) (he : PED X E e f) (hN : X.N[i]? = some x := by rfl) (hv : Vis X.env.scope x := by first | exact Or.inl rfl | exact Or.inr (Or.inl rfl) | exact Or.inr (Or.inr rfl)) (hd : (x == ("__debug__" : Str)) = false := by decide) (hcd : (x == ("__classdict__" : Str)) = false := by decide)
    (hb : attributeBase (.Name x p) "borne" X.env (eval (.Name x p) X.env) = eval (.Name x p) X.env := by rfl) (hm : M2 X (.Attribute (.Name x p) "borne" bpos) "get" apos e (.Tuple [] kk tpos) cpos := by exact ⟨rfl, rfl, rfl, rfl⟩) :
    PED X E (.Call (.Attribute (.Attribute (.Name x p) "borne" bpos) "get" apos) [e, .Tuple [] kk tpos] [] cpos) (kX i f) := by
  obtain ⟨t, q, d⟩ := he
  refine ⟨_, vN hu (j5 (pv i hN hv hd hcd) hb) q (nZ eA) hm, fun σ H δ Ω R Q h => ?_⟩
  unfold kX at h
  split at h
  · rename_i hs
    obtain ⟨⟨b0, own0⟩, hb0⟩ := Option.isSome_iff_exists.mp hs
    obtain ⟨pp, a1, a2, a3, e0, hp, _⟩ := dF R hb0
    obtain ⟨dx, hi⟩ := hp.bed.ins T
    obtain ⟨kv0, xs0, ys0, g1, g2, _⟩ := id hp
    refine ⟨.ref pp, e0, pp, C, dx, _, .ref a1, rfl, hi, T.cl, T.n1, bf1, a1, rfl, .inr ⟨kv0, .inl g2.1⟩, ?_⟩
    refine d.use R h fun a y δ1 H1 Ω1 ex0 s1 R1 r1 h1 => ?_
    (try dsimp only at h1)
    split at h1
    · rename_i r n b own q1 q2
      obtain ⟨p2, c1, c2, c3, e1, hp1, _⟩ := dF R1 q2
      rw [e0] at e1
      cases e1
      obtain ⟨ky, z1, z2⟩ := (show ∃ a, _ from r1.res R1 q1)
      subst z1
      refine ⟨by change 0 ≤ sizeLine; exact Nat.zero_le _, fun tp htp => ?_⟩
      obtain ⟨kvs, xs, ys, k1, k2, k3, k4, k5, k6, k7, k8⟩ := hp1
      have ex : Ext H1 Ω1 (upd H1 tp (.tup [])) Ω1 := .alloc htp R1.trk
      have hbed := bT.ext ex k1
      obtain ⟨C', dx', w1, w2⟩ := k1
      have e13 : c1 = a1 := by
        have hi1 := ex0.keep pp _ hi (.inl rfl)
        rw [hi1] at w2
        cases w2
        rfl
      subst e13
      refine ⟨_, hV.t (b := ky) (k := bP (r, n)) (kvs := kvs) (by rw [aD (cz k2.1 htp)]; exact k2.1) (by rw [aD (cz z2 htp)]; exact z2), ?_⟩
      have tr : Rep X.K (upd H1 tp (.tup [])) Ω1 (.tup []) (.ref tp) := (show ∃ a vs, _ from ⟨tp, [], rfl, SqT.of aT, .nil⟩)
      rcases ra (r, n) k5 (k6.ext ex) with ⟨dd, v, l1, l2, l3⟩ | ⟨l1, l2⟩
      · rw [l1] at h1
        rw [l2]
        exact h1 _ Ω1 ex (R1.alloc htp) v l3
      · rw [l1] at h1
        rw [l2]
        exact h1 _ Ω1 ex (R1.alloc htp) _ tr
    · exact h1.elim
  · exact h.elim
theorem j3 {K : PySem.W.Frag} {H : Hp} {Ω : Om} {σ : St} {δ : DSt} {i : Nat} {ks : List (Str × Int)} {vs as bs : List D} (R : ar K H Ω σ δ) (h : δ[i]? = some (.ob ks vs as bs)) : ∃ p a1 a2 a3 kvs xs ys, σ[i]? = some (some (.ref p)) ∧ bT K H p a1 a2 a3 ∧ (H a1 = some (.dT kvs) ∧ Ω a1 = some (i + 2)) ∧ (H a2 = some (.lst xs) ∧ Ω a2 = some (i + 2)) ∧ (H a3 = some (.lst ys) ∧ Ω a3 = some (i + 2)) ∧ a2 ≠ a3 ∧ kvs.map (·.1) = ks.map bP ∧ au K H Ω vs (kvs.map (·.2)) ∧ au K H Ω as xs ∧ au K H Ω bs ys := by
  obtain ⟨p, e0, a1, a2, a3, kvs, xs, ys, h⟩ := R.sl i _ h
  exact ⟨p, a1, a2, a3, kvs, xs, ys, join_some e0, h⟩
theorem bT.same {K : PySem.W.Frag} {H : Hp} {C p dx a1 a2 a3 c1 c2 c3 : Addr} (h : bT K H p c1 c2 c3) (hi : H p = some (.ins C dx (dw a1 a2 a3))) : c1 = a1 ∧ c2 = a2 ∧ c3 = a3 := by
  obtain ⟨C', dx', w1, w2⟩ := h
  rw [hi] at w2
  cases w2
  exact ⟨rfl, rfl, rfl⟩
theorem lx (i : Nat) {sp : Pos} (T : aV X.K C) (hu : X.A.units + 1 < cLine) (h2 : PED X E e2 f2) (h1 : PED X E e1 f1) (hN : X.N[i]? = some x := by rfl) (hv : Vis X.env.scope x := by first | exact Or.inl rfl | exact Or.inr (Or.inl rfl) | exact Or.inr (Or.inr rfl)) (hd : (x == ("__debug__" : Str)) = false := by decide) (hcd : (x == ("__classdict__" : Str)) = false := by decide)
    (hb : attributeBase (.Name x p) "borne" X.env (eval (.Name x p) X.env) = eval (.Name x p) X.env := by rfl) (hsw : swapsWith e2 (some (.Subscript (.Attribute (.Name x p) "borne" bpos) e1 sp)) pos.line X.env = pure false := by rfl) :
    PSD X E mp (.Assign [.Subscript (.Attribute (.Name x p) "borne" bpos) e1 sp] e2 pos) (ix i f2 f1) := by
  obtain ⟨t2, q2, d2⟩ := h2
  obtain ⟨t1, q1, d1⟩ := h1
  refine ⟨_, vz hu (j5 (pv i hN hv hd hcd) hb) q1 q2 hsw, fun σ H δ Ω R B h => ?_⟩
  refine d2.use R h fun b y δ1 H1 Ω1 _ s1 R1 r1 w1 => ?_
  (try dsimp only at w1)
  split at w1
  · rename_i dd
    split at w1
    · rename_i ho
      unfold fY at ho
      split at ho
      · rename_i ks0 vs0 as0 bs0 hs0
        obtain ⟨pp, a1, a2, a3, kv0, xs0, ys0, e0, hb0, _⟩ := j3 R1 hs0
        obtain ⟨dx, hi⟩ := hb0.ins T
        refine ⟨.ref pp, e0, pp, C, dx, _, .ref a1, rfl, hi, T.cl, T.n1, bf1, ?_⟩
        refine d1.use R1 w1 fun a z δ2 H2 Ω2 ex2 s2 R2 r2 w2 => ?_
        (try dsimp only at w2)
        split at w2
        · rename_i r n ks vs as bs hk hs2
          split at w2
          · rename_i hz
            obtain ⟨p2, c1, c2, c3, kvs, xs, ys, e1, k1, k2, k3, k4, k5, k6, k7, k8, k9⟩ := j3 R2 hs2
            have e1' := e1
            rw [e0] at e1
            cases e1
            obtain ⟨rfl, rfl, rfl⟩ := k1.same (ex2.keep pp _ hi (.inl rfl))
            obtain ⟨ky, z1, z2⟩ := (show ∃ a, _ from r2.res R2 hk)
            subst z1
            have ry : Rep X.K H2 Ω2 dd y := Rep.ext ex2 r1
            have hlen : kvs.length < sizeLine := by
              have := congrArg List.length k6
              rw [List.length_map, List.length_map] at this
              rw [this]; exact hz
            refine ⟨c1, _, rfl, ir.t (b := ky) (k := bP (r, n)) k2.1 z2 hlen, ?_⟩
            have ml : ∃ vs, H2 c1 = some vs ∧ bB vs = false := ⟨_, k2.1, rfl⟩
            have ex : Ext H2 Ω2 (upd H2 c1 (.dT (putK kvs (bP (r, n)) y))) Ω2 := .putK ml k2.2
            obtain ⟨g1, g2⟩ := xr (q := (r, n)) ry k6 k7
            have n12 : c2 ≠ c1 := by rintro rfl; rw [k2.1] at k3; cases k3.1
            have n13 : c3 ≠ c1 := by rintro rfl; rw [k2.1] at k4; cases k4.1
            refine w2 _ Ω2 ex σ (R2.putK ml k2.2 rfl ⟨pp, by rw [e1']; rfl, c1, c2, c3, _, xs, ys, bT.ext ex k1, ⟨aT, k2.2⟩, ⟨by rw [aD n12]; exact k3.1, k3.2⟩, ⟨by rw [aD n13]; exact k4.1, k4.2⟩, k5, g1, g2.ext ex, k8.ext ex, k9.ext ex⟩) fun _ _ => rfl
          · exact w2.elim
        · exact w2.elim
      · cases ho
    · exact w1.elim
  · exact w1.elim
end
end DL
namespace DL
open PySem PySem.Spec PyProof.Rows L2
noncomputable def kj (i : Nat) (f : DM DV) : DM Fl := fun δ => if fY i δ then ((fN f).bd fun a δ1 => match a, δ1[i]? with
  | .val d, some (.ob ks vs as bs) => if as.length < sizeLine then .ok .nx (δ1.set i (.ob ks vs (as ++ [d]) bs)) else .un
  | _, _ => .un) δ else .un
noncomputable def kq (i : Nat) (f : DM DV) : DM Fl := fun δ => if fY i δ then ((fN f).bd fun a δ1 => match a, δ1[i]? with
  | .val d, some (.ob ks vs as bs) => if bs.length < sizeLine then .ok .nx (δ1.set i (.ob ks vs as (bs ++ [d]))) else .un
  | _, _ => .un) δ else .un
section
variable {X : Cx} {E : Str → Hp → Prop} {pos apos cpos bpos p p' : Pos} {e e1 e2 : Expr} {f f1 f2 : DM DV} {C : Addr} {x : Str} {mp : List Nat}
theorem xI (i : Nat) (T : aV X.K C) (he : PED X E e f) (hN : X.N[i]? = some x := by rfl) (hv : Vis X.env.scope x := by first | exact Or.inl rfl | exact Or.inr (Or.inl rfl) | exact Or.inr (Or.inr rfl)) (hd : (x == ("__debug__" : Str)) = false := by decide) (hcd : (x == ("__classdict__" : Str)) = false := by decide)
    (hb : attributeBase (.Name x p) "knitted" X.env (eval (.Name x p) X.env) = eval (.Name x p) X.env := by rfl)
    (hbase : attributeBase (.Attribute (.Name x p) "knitted" bpos) "append" X.env (eval (.Attribute (.Name x p) "knitted" bpos) X.env) = eval (.Attribute (.Name x p) "knitted" bpos) X.env := by rfl)
    (hfew : ((backTo cpos (starEach [e] X.env)).all (fun x => !x.1) && (backToKw cpos (keywordEach [] X.env)).all (fun x => x.1.isSome)
      && decide (([e] : List Expr).length + ([] : List Keyword).length + (if ([] : List Keyword).isEmpty then 0 else 1) < 30)) = true := by rfl)
    (hline : (apos.endLine == cpos.line) = true := by rfl) (hs : starEach [e] X.env = (false, eval e X.env) :: starEach [] X.env := by rfl)
    (hsw : swapsWith (.Call (.Attribute (.Attribute (.Name x p) "knitted" bpos) "append" apos) [e] [] cpos) none pos.line X.env = pure false := by rfl) :
    PSD X E mp (.Expr (.Call (.Attribute (.Attribute (.Name x p) "knitted" bpos) "append" apos) [e] [] cpos) pos) (kj i f) := by
  obtain ⟨t, q, d⟩ := he
  refine ⟨_, km (mK PySem.F.plainAttrs_list PySem.F.slot_list_append PySem.F.type_list_append kr (j5 (pv i hN hv hd hcd) hb) (dX q eA hs) hbase hfew hline hs rfl) hsw, ?_⟩
  intro σ H δ Ω R B h
  unfold kj at h
  split at h
  · rename_i ho
    unfold fY at ho
    split at ho
    · rename_i ks0 vs0 as0 bs0 hs0
      obtain ⟨pp, a1, a2, a3, kv0, xs0, ys0, e0, hb0, _, g2, _⟩ := j3 R hs0
      obtain ⟨dx, hi⟩ := hb0.ins T
      refine ⟨.ref pp, e0, pp, C, dx, _, .ref a2, rfl, hi, T.cl, T.n2, bf2, .inl ⟨rfl, xs0, SqL.of g2.1⟩, ?_⟩
      refine d.use R h fun a y δ2 H2 Ω2 ex2 s2 R2 r2 w2 => ?_
      (try dsimp only at w2)
      split at w2
      · rename_i dd ks vs as bs hs2
        split at w2
        · rename_i hz
          obtain ⟨p2, c1, c2, c3, kvs, xs, ys, e1, k1, k2, k3, k4, k5, k6, k7, k8, k9⟩ := j3 R2 hs2
          have e1' := e1
          rw [e0] at e1
          cases e1
          obtain ⟨rfl, rfl, rfl⟩ := k1.same (ex2.keep pp _ hi (.inl rfl))
          refine ⟨c2, xs, y, rfl, rfl, k3.1, by rw [← k8.length]; exact hz, ?_⟩
          have ml : ∃ vs, H2 c2 = some vs ∧ bB vs = false := ⟨_, k3.1, rfl⟩
          have ex : Ext H2 Ω2 (upd H2 c2 (.lst (xs ++ [y]))) Ω2 := .putK ml k3.2
          have n12 : c1 ≠ c2 := by rintro rfl; rw [k2.1] at k3; cases k3.1
          refine w2 _ Ω2 ex σ (R2.putK ml k3.2 rfl ⟨pp, by rw [e1']; rfl, c1, c2, c3, kvs, _, ys, bT.ext ex k1, ⟨by rw [aD n12]; exact k2.1, k2.2⟩, ⟨aT, k3.2⟩, ⟨by rw [aD k5.symm]; exact k4.1, k4.2⟩, k5, k6, k7.ext ex, (k8.append (.cons r2 .nil)).ext ex, k9.ext ex⟩) fun _ _ => rfl
        · exact w2.elim
      · exact w2.elim
    · cases ho
  · exact h.elim
theorem vr (i : Nat) (T : aV X.K C) (he : PED X E e f) (hN : X.N[i]? = some x := by rfl) (hv : Vis X.env.scope x := by first | exact Or.inl rfl | exact Or.inr (Or.inl rfl) | exact Or.inr (Or.inr rfl)) (hd : (x == ("__debug__" : Str)) = false := by decide) (hcd : (x == ("__classdict__" : Str)) = false := by decide)
    (hb : attributeBase (.Name x p) "past" X.env (eval (.Name x p) X.env) = eval (.Name x p) X.env := by rfl)
    (hbase : attributeBase (.Attribute (.Name x p) "past" bpos) "append" X.env (eval (.Attribute (.Name x p) "past" bpos) X.env) = eval (.Attribute (.Name x p) "past" bpos) X.env := by rfl)
    (hfew : ((backTo cpos (starEach [e] X.env)).all (fun x => !x.1) && (backToKw cpos (keywordEach [] X.env)).all (fun x => x.1.isSome)
      && decide (([e] : List Expr).length + ([] : List Keyword).length + (if ([] : List Keyword).isEmpty then 0 else 1) < 30)) = true := by rfl)
    (hline : (apos.endLine == cpos.line) = true := by rfl) (hs : starEach [e] X.env = (false, eval e X.env) :: starEach [] X.env := by rfl)
    (hsw : swapsWith (.Call (.Attribute (.Attribute (.Name x p) "past" bpos) "append" apos) [e] [] cpos) none pos.line X.env = pure false := by rfl) :
    PSD X E mp (.Expr (.Call (.Attribute (.Attribute (.Name x p) "past" bpos) "append" apos) [e] [] cpos) pos) (kq i f) := by
  obtain ⟨t, q, d⟩ := he
  refine ⟨_, km (mK PySem.F.plainAttrs_list PySem.F.slot_list_append PySem.F.type_list_append kr (j5 (pv i hN hv hd hcd) hb) (dX q eA hs) hbase hfew hline hs rfl) hsw, ?_⟩
  intro σ H δ Ω R B h
  unfold kq at h
  split at h
  · rename_i ho
    unfold fY at ho
    split at ho
    · rename_i ks0 vs0 as0 bs0 hs0
      obtain ⟨pp, a1, a2, a3, kv0, xs0, ys0, e0, hb0, _, _, g3, _⟩ := j3 R hs0
      obtain ⟨dx, hi⟩ := hb0.ins T
      refine ⟨.ref pp, e0, pp, C, dx, _, .ref a3, rfl, hi, T.cl, T.n3, bf3, .inl ⟨rfl, ys0, SqL.of g3.1⟩, ?_⟩
      refine d.use R h fun a y δ2 H2 Ω2 ex2 s2 R2 r2 w2 => ?_
      (try dsimp only at w2)
      split at w2
      · rename_i dd ks vs as bs hs2
        split at w2
        · rename_i hz
          obtain ⟨p2, c1, c2, c3, kvs, xs, ys, e1, k1, k2, k3, k4, k5, k6, k7, k8, k9⟩ := j3 R2 hs2
          have e1' := e1
          rw [e0] at e1
          cases e1
          obtain ⟨rfl, rfl, rfl⟩ := k1.same (ex2.keep pp _ hi (.inl rfl))
          refine ⟨c3, ys, y, rfl, rfl, k4.1, by rw [← k9.length]; exact hz, ?_⟩
          have ml : ∃ vs, H2 c3 = some vs ∧ bB vs = false := ⟨_, k4.1, rfl⟩
          have ex : Ext H2 Ω2 (upd H2 c3 (.lst (ys ++ [y]))) Ω2 := .putK ml k4.2
          have n13 : c1 ≠ c3 := by rintro rfl; rw [k2.1] at k4; cases k4.1
          refine w2 _ Ω2 ex σ (R2.putK ml k4.2 rfl ⟨pp, by rw [e1']; rfl, c1, c2, c3, kvs, xs, _, bT.ext ex k1, ⟨by rw [aD n13]; exact k2.1, k2.2⟩, ⟨by rw [aD k5]; exact k3.1, k3.2⟩, ⟨aT, k4.2⟩, k5, k6, k7.ext ex, k8.ext ex, (k9.append (.cons r2 .nil)).ext ex⟩) fun _ _ => rfl
        · exact w2.elim
      · exact w2.elim
    · cases ho
  · exact h.elim
end
noncomputable def qw : Sl → Sl
  | .sh d => .sh d
  | _ => .no
noncomputable def jZ (i : Nat) (b : Bd) (δ : DSt) : DSt := (δ.map qw).set i (.sh b.d)
noncomputable def j0 (i : Nat) (f : DM DV) : DM DV := fun δ => match δ[i]? with
  | some (.ob ks vs as bs) => (match f (jZ i ⟨ks, vs, as, bs⟩ δ) with
    | .ok (.own ds) _ => if cF ds = true then .ok (.own ds) δ else .un
    | _ => .un)
  | _ => .un
theorem Bu {K : PySem.W.Frag} {E : Str → Hp → Prop} {t : TE} {f : DM DV} (i : Nat) (d : DE K E t f) : DE K E t (j0 i f) := by
  intro σ H δ Ω R Q h
  unfold j0 at h
  split at h
  · rename_i ks vs as bs hs
    obtain ⟨p, a1, a2, a3, e0, hb, hne⟩ := dF (b := ⟨ks, vs, as, bs⟩) (own := true) R (by unfold bR; rw [hs])
    have hls : ∀ x, Ω x = none → seen Ω a1 a2 a3 none x = none := kO (.inl rfl)
    have R0 : ar K H (seen Ω a1 a2 a3 none) σ (jZ i ⟨ks, vs, as, bs⟩ δ) := by
      refine ⟨by unfold jZ; rw [List.length_set, List.length_map]; exact R.len, fun j s q => ?_, lb R hb⟩
      unfold jZ at q
      by_cases hj : i = j
      · subst hj
        have hlt : i < (δ.map qw).length := by
          have := (List.getElem?_eq_some_iff.mp q).1
          rwa [List.length_set] at this
        rw [List.getElem?_set_self hlt] at q
        cases q
        exact ⟨.ref p, by rw [e0]; rfl, bI.obj (hb.re hls (cq (.inl rfl)) (cq (.inr (.inl rfl))) (cq (.inr (.inr rfl))))⟩
      · rw [List.getElem?_set_ne hj, List.getElem?_map] at q
        obtain ⟨s', q1, q2⟩ := Option.map_eq_some_iff.mp q
        subst q2
        cases s' with
        | sh dd =>
          obtain ⟨v, z1, z2⟩ := R.sl j _ q1
          exact ⟨v, z1, Rep.less hls z2⟩
        | _ => trivial
    split at h
    · rename_i ds δ1 hf
      split at h
      · rename_i hfl
        refine d σ H _ _ R0 Q ?_
        rw [hf]
        intro H' Ω' e R' v ⟨a, ws, z1, z2, z3, z4⟩
        have lab : ∀ x, bG a1 a2 a3 x → Ω' x = none := fun x hx => by
          obtain ⟨_, u, z2, _⟩ := hb.lab hx
          exact e.new x (cq hx) (by rw [z2]; exact Option.some_ne_none _)
        have ha : ¬ bG a1 a2 a3 a := fun hx => by rw [lab a hx] at z3; cases z3
        exact h H' _ (Ext.cw hb e (.inl rfl)) (R.homeR hb e R'.trk) v ⟨a, ws, z1, z2, by rw [gW ha]; exact jX z3, au.flat hfl z4⟩
      · exact h.elim
    · exact h.elim
  · exact h.elim
section
variable {X : Cx} {E : Str → Hp → Prop} {pos p p1 p2 pos2 : Pos} {e a b : Expr} {f g : DM DV} {x : Str} {mp : List Nat}
theorem wy (i : Nat) (h : PED X E e f) : PED X E e (j0 i f) := by
  obtain ⟨t, q, d⟩ := h
  exact ⟨t, q, Bu i d⟩
noncomputable def oo : List D → Option DV
  | [.int i] => some (.val (.int (if i < 0 then -i else i)))
  | _ => none
theorem ya : fV X (.builtin "abs") oo := ⟨_, yZ, by
  intro E σ H δ Ω vs ds z Q R r hz h
  unfold oo at hz
  split at hz
  · rename_i i
    cases hz
    obtain ⟨v, e, rv⟩ := fD r
    subst e
    cases (show v = .int i from rv)
    exact ⟨i, rfl, h.now R rfl⟩
  · cases hz⟩
noncomputable def jt : D → D → Option DV
  | .tup xs, .tup ys => if xs.length + ys.length ≤ sizeLine then some (.val (.tup (xs ++ ys))) else none
  | _, _ => none
theorem p7 : iz X .Add jt := ⟨_, xf.or vi, by
  intro E σ H δ Ω x y d1 d2 z Q R r1 r2 hz h
  unfold jt at hz
  split at hz
  · rename_i xs ys
    split at hz
    · rename_i hl
      cases hz
      obtain ⟨a, vs, e1, e2, e3⟩ := dY r1
      obtain ⟨b, ws, q1, q2, q3⟩ := dY r2
      cases xs with
      | nil =>
        cases (show vs = [] from e3)
        exact .inr ⟨a, b, ws, e1, q1, e2, q2, h.now R (show ∃ a vs, _ from ⟨b, ws, rfl, q2, q3⟩)⟩
      | cons x0 xs =>
        refine .inl ⟨a, b, vs, ws, e1, q1, e2, q2, fun z => ?_, by rw [← e3.length, ← q3.length]; exact hl, fun z => ?_, fun z p hp => h.allocT R hp (e3.append q3)⟩
        · rw [z] at e3
          have := e3.length
          cases this
        · subst z
          cases ys with
          | nil => rw [List.append_nil] at h; exact h.now R (show ∃ a vs, _ from ⟨a, vs, rfl, e2, e3⟩)
          | cons y0 ys => have := q3.length; cases this
    · cases hz
  · cases hz⟩
noncomputable def mG (K : PySem.W.Frag) (mg : Str → Option Value) (x : Str) (kvs : List (Str × Str)) : Prop := ∃ a, mg x = some (.ref a) ∧ ka K a kvs
theorem tD {K : PySem.W.Frag} {mg : Str → Option Value} {x : Str} {a : Addr} {kvs : List (Str × Str)} (h : mg x = some (.ref a)) (T : ka K a kvs) : mG K mg x kvs := ⟨a, h, T⟩
noncomputable def gS (kvs : List (Str × Str)) : D → Option DV
  | .str k => (gT k kvs).map fun n => .val (.str n)
  | _ => none
theorem sf {kvs : List (Str × Str)} (hm : mG X.K X.mg x kvs) (ha : PED X E a f) (hg : Gl X x := by rfl) (hd : (x == ("__debug__" : Str)) = false := by decide) (hs : n9 a := by intro _ _; rfl) :
    PED X E (.Subscript (.Name x p) a pos) (fUn f (gS kvs)) := by
  obtain ⟨ad, h1, T⟩ := hm
  obtain ⟨t, q, d⟩ := ha
  refine ⟨_, tE zi (ez (v := .ref ad) hg h1 rfl hd) q hs, ?_⟩
  intro σ H δ Ω R Q w
  refine d.use R w fun a1 y δ1 H1 Ω1 _ s1 R1 r1 w1 => ?_
  cases q1 : res δ1 a1 with
  | none => rw [q1] at w1; exact w1.elim
  | some d1 =>
    rw [q1] at w1
    cases d1 with
    | str k =>
      unfold gS at w1
      (try dsimp only at w1)
      cases q2 : gT k kvs with
      | none => rw [q2] at w1; exact w1.elim
      | some n => rw [q2] at w1; exact ⟨k, ad, kvs, n, rfl, r1.res R1 q1, T, q2, Wg.now (d := .val (.str n)) w1 R1 rfl⟩
    | _ => exact w1.elim
end
noncomputable def kU (H : Hp) (C p dx a1 a2 a3 : Addr) : Hp := upd (upd (upd (upd H p (.ins C dx (dw a1 a2 a3))) a1 (.dT [])) a2 (.lst [])) a3 (.lst [])
noncomputable def ui (C : Addr) : Sp := fun vs H Q _ => ∃ (p dx : Addr), vs = [.ref p] ∧ H p = some (.ins C dx []) ∧ ∀ a1 a2 a3 : Addr, H a1 = none → H a2 = none → H a3 = none → a1 ≠ a2 → a1 ≠ a3 → a2 ≠ a3 → Q .non (kU H C p dx a1 a2 a3)
structure MkB (P : Program) (w : World) (K : PySem.W.Frag) (mg : Str → Option Value) (base : Heap) (C : Addr) : Prop where
  nm : mg "Bed" = some (.ref C)
  ex : ∃ (f : Addr) (fd : FuncData), aO P w K mg base CX0 1 f fd ["self"] (ui C) ∧ Mk K C f ∧ Binds K fd ["self"] []
noncomputable def kI (i : Nat) : DM Fl := fun δ => .ok .nx (δ.set i (.ob [] [] [] []))
section
variable {X : Cx} {E : Str → Hp → Prop} {pos p : Pos} {C : Addr} {x : Str} {mp : List Nat}
theorem tH (i : Nat) {pos' cpos : Pos} (hN : X.N.Nodup) (T : aV X.K C) (M : MkB X.prog X.w X.K X.mg X.base C) (hr : aU 2 X.A) (hg : Gl X "Bed" := by rfl) (hi : X.N[i]? = some x := by rfl) (hx : Loc X.env.scope x := by first | exact Or.inl rfl | exact Or.inr rfl) (hm : i ∉ mp := by decide)
    (hs : swapsWith (.Call (.Name "Bed" p) [] [] cpos) (some (.Name x pos')) pos.line X.env = pure false := by rfl) (hf : X.fn x = true ∨ X.env.scope.names.lookup x = some .local := by first | exact .inl rfl | exact .inr rfl) :
    PSD X E mp (.Assign [.Name x pos'] (.Call (.Name "Bed" p) [] [] cpos) pos) (kI i) := by
  obtain ⟨f, fd, F, mk, b⟩ := M.ex
  refine ⟨_, m9 hN hi hx (A8 mk F hr hg M.nm b .nil gz) hs hf, fun σ H δ Ω R B h => ?_⟩
  intro q dx n1 n2 ne
  refine ⟨q, dx, rfl, aT, fun a1 a2 a3 f1 f2 f3 n12 n13 n23 => ⟨rfl, ?_⟩⟩
  have fr : ∀ {a : Addr}, upd (upd H dx (.own q)) q (.ins C dx []) a = none → a ≠ q ∧ a ≠ dx ∧ H a = none := fun {a} z => by
    have z1 : a ≠ q := by rintro rfl; rw [aT] at z; cases z
    rw [aD z1] at z
    have z2 : a ≠ dx := by rintro rfl; rw [aT] at z; cases z
    rw [aD z2] at z
    exact ⟨z1, z2, z⟩
  obtain ⟨g1, g2, g3⟩ := fr f1
  obtain ⟨k1, k2, k3⟩ := fr f2
  obtain ⟨l1, l2, l3⟩ := fr f3
  have hh : kU (upd (upd H dx (.own q)) q (.ins C dx [])) C q dx a1 a2 a3 = upd (upd (upd (upd (upd H dx (.own q)) q (.ins C dx (dw a1 a2 a3))) a1 (.dT [])) a2 (.lst [])) a3 (.lst []) := by
    unfold kU
    congr 3
    funext z
    by_cases hz : z = q
    · subst hz; rw [aT, aT]
    · rw [aD hz, aD hz, aD hz]
  rw [hh]
  have h1 : (upd H dx (.own q)) q = none := by rw [aD ne.symm]; exact n1
  have h2 : upd (upd H dx (.own q)) q (.ins C dx (dw a1 a2 a3)) a1 = none := by rw [aD g1, aD g2]; exact g3
  have h3 : upd (upd (upd H dx (.own q)) q (.ins C dx (dw a1 a2 a3))) a1 (.dT []) a2 = none := by rw [aD n12.symm, aD k1, aD k2]; exact k3
  have h4 : upd (upd (upd (upd H dx (.own q)) q (.ins C dx (dw a1 a2 a3))) a1 (.dT [])) a2 (.lst []) a3 = none := by rw [aD n23.symm, aD n13.symm, aD l1, aD l2]; exact l3
  have R1 := R.alloc (o := .own q) n2
  have R2 := R1.alloc (o := .ins C dx (dw a1 a2 a3)) h1
  have R3 := R2.allocK (o := .dT []) (k := i + 1) h2 rfl
  have R4 := R3.allocK (o := .lst []) (k := i + 1) h3 rfl
  have R5 := R4.allocK (o := .lst []) (k := i + 1) h4 rfl
  have e5 := ((((Ext.alloc (o := .own q) n2 R.trk).trans (.alloc (o := .ins C dx (dw a1 a2 a3)) h1 R1.trk)).trans (.allocK (o := .dT []) (k := i + 1) h2 R2.trk)).trans (.allocK (o := .lst []) (k := i + 1) h3 R3.trk)).trans (.allocK (o := .lst []) (k := i + 1) h4 R4.trk)
  refine h _ _ e5 _ (R5.set ⟨q, rfl, a1, a2, a3, [], [], [], ⟨C, dx, T.ns, ?_⟩, ⟨?_, ?_⟩, ⟨?_, ?_⟩, ⟨aT, ?_⟩, n23, rfl, .nil, .nil, .nil⟩) (set_same hm)
  · rw [aD l1.symm, aD k1.symm, aD g1.symm, aT]
  · rw [aD n13, aD n12, aT]
  · unfold aQ; rw [if_neg n13, if_neg n12, if_pos rfl]
  · rw [aD n23, aT]
  · unfold aQ; rw [if_neg n23, if_pos rfl]
  · unfold aQ; rw [if_pos rfl]
end
end DL
namespace DL
open PySem PySem.Spec PyProof.Rows L2
section
variable {K : PySem.W.Frag} {C p dx : Addr} {H : Hp} {Q : VK}
theorem Ba (a1 a2 a3 : Addr) : cB "past" (.ref a3) (cB "knitted" (.ref a2) (cB "borne" (.ref a1) [])) = dw a1 a2 a3 := by
  rfl
theorem uV (TB : aV K C) (hp : H p = some (.ins C dx [])) (k : ∀ a1 a2 a3 : Addr, H a1 = none → H a2 = none → H a3 = none → a1 ≠ a2 → a1 ≠ a3 → a2 ≠ a3 → Q .non (kU H C p dx a1 a2 a3)) :
    lV (ni K (eV 0) pX "borne") (lV (ni K (eV 0) (kS gL) "knitted") (ni K (eV 0) (kS gL) "past")) { nx := fun _ H' => Q .non H', rt := Q } (L2.start ["self"] [.ref p]) H := by
  intro a1 f1
  have n1 : p ≠ a1 := cz hp f1
  refine ⟨.ref p, rfl, p, C, dx, [], rfl, by rw [aD n1]; exact hp, TB.cl, TB.n1, by change 0 < 1000; decide, by change 0 ≤ sizeLine; exact Nat.zero_le _, fun a2 f2 => ?_⟩
  have m1 : a2 ≠ p := by rintro rfl; rw [aT] at f2; cases f2
  rw [aD m1] at f2
  have m2 : a2 ≠ a1 := by rintro rfl; rw [aT] at f2; cases f2
  rw [aD m2] at f2
  refine ⟨.ref p, rfl, p, C, dx, _, rfl, by rw [aD m1.symm, aT], TB.cl, TB.n2, by change 1 < 1000; decide, by change 0 ≤ sizeLine; exact Nat.zero_le _, fun a3 f3 => ?_⟩
  have l1 : a3 ≠ p := by rintro rfl; rw [aT] at f3; cases f3
  rw [aD l1] at f3
  have l2 : a3 ≠ a2 := by rintro rfl; rw [aT] at f3; cases f3
  rw [aD l2, aD l1] at f3
  have l3 : a3 ≠ a1 := by rintro rfl; rw [aT] at f3; cases f3
  rw [aD l3] at f3
  refine ⟨.ref p, rfl, p, C, dx, _, rfl, by rw [aD l1.symm, aT], TB.cl, TB.n3, by change 2 < 1000; decide, ?_⟩
  have h := k a1 a2 a3 f1 f2 f3 m2.symm l3.symm l2.symm
  rw [Ba]
  refine cast (congrArg (Q .non) ?_) h
  unfold kU
  funext z
  by_cases z1 : z = a3
  · subst z1; rw [aT, aD l1, aT]
  rw [aD z1]
  by_cases z2 : z = a2
  · subst z2; rw [aT, aD m1, aD z1, aD m1, aT]
  rw [aD z2]
  by_cases z3 : z = a1
  · subst z3; rw [aT, aD n1.symm, aD z1, aD n1.symm, aD z2, aD n1.symm, aT]
  rw [aD z3]
  by_cases z4 : z = p
  · subst z4; rw [aT, aT]
  · rw [aD z4, aD z4, aD z1, aD z4, aD z2, aD z4, aD z3]
end
end DL
namespace L2
open PySem PySem.Spec PyProof.Rows PySem.W
section
variable {X : Cx} {pins : List (Addr × Obj)} {σ : St} {H H' : Hp} {s : Shared} {pos apos : Pos} {o e : Expr} {es : List Expr} {ta : TE} {t : TA} {m : Str} {C : Addr}
theorem PE.any {te : TE} (h : PE X.nox e te) {Q : VK} {G : Value → Shared → Prop} (I : Inv X pins σ H s) (hw : te σ H Q) : wpAny (model X.prog X.w) X.A (eval e X.env) (EP X pins σ Q) G s :=
  wpAny_mono (h pins s σ H Q (I.wish _) hw) (fun _ _ ⟨vs, H', I', r, q⟩ => ⟨vs, H', I'.unwish, r, q⟩) fun _ _ z => False.elim z
theorem vV {k : Nat} {f : Addr} {fd : FuncData} {ps : List Str} {sp : Sp} {ds : List Value} {dvs : List V} {pl : Sem Bool} (he : PE X.nox o ta) (c : Cls X.K C) (hm : Meth X.K C m f) (F : aO X.prog X.w X.K X.mg X.base (Fly X.prog X.w) k f fd ps sp) (hr : aU k X.A) (hex : X.ex = [])
    (hb : Binds X.K fd ps ds) (hd : Vals dvs ds) (ha : PA X.nox (e :: es) t) (hst : starEach (e :: es) X.env = (false, eval e X.env) :: starEach es X.env := by rfl) (hpl : (backTo pos (starEach es X.env)).any (·.1) = false := by rfl)
    (ht : eval (.Call (.Attribute o m apos) (e :: es) [] pos) X.env = (do
      let ov ← eval o X.env
      standAt apos.atName
      let (f, first) ← holding [ov] (getMethod ov m pl)
      callWith pos f first (backTo pos (starEach (e :: es) X.env)) (backToKw pos (keywordEach [] X.env))) := by rfl) :
    PEX X (.Call (.Attribute o m apos) (e :: es) [] pos) (fun σ H Q E => ta σ H fun x H1 => ∃ a dx fs, x = .ref a ∧ H1 a = some (.ins C dx fs) ∧ fs.lookup m = none ∧ t σ H1 fun vs H2 => sp (x :: (vs ++ dvs)) H2 Q E) := by
  intro pins s σ H Q E G I h hG
  refine PySem.W.methodCall_KW (pl := pl) (thn (PE.any he I h) fun u s1 ⟨x, H1, I1, rx, a, dx, fs, ex, ea, l, q⟩ => ?_) ht
  subst ex
  obtain rfl : u = Value.ref a := rx
  refine om I1 ea c hm l ?_
  refine PySem.W.callWith_K (first := [.ref a]) (h₀ := X.base) I.ok.mod.kin hm.kp (thn (PA.any (pos := pos) ha I1 q) fun us s2 ⟨vs, H2, I2, r, q2⟩ => ⟨I2.kIn, ?_⟩) hst hpl
  have r2 : Vals (V.ref a :: (vs ++ dvs)) (Value.ref a :: us ++ ds) := .cons rfl (r.append hd)
  have hl : (Value.ref a :: us ++ ds).length = ps.length := by rw [← r2.length]; exact F.len _ _ _ _ q2
  refine wpAny_call (codeAny_mono (F.run X.A X.stack s2 H2 ⟨Value.ref a :: us, []⟩ (Value.ref a :: us ++ ds) (V.ref a :: (vs ++ dvs)) Q E hr I2.env0 (hb s2 (Value.ref a :: us) I2.kIn hl) r2 q2) fun r s' hq => ?_)
  cases r with
  | error e =>
    obtain ⟨a, cls, H', rfl, ho, hb', u, hok, ⟨f1, f2, a0, oe, vs, T, oT, ts, t1, t2, t3, t4, t5, t5', t6, t7, t8, t9⟩, hE⟩ := hq
    have J : Inv X pins σ H' s' := I2.call' (ch := []) ho u hok hb' (fun b z => nomatch z)
    exact hG a cls H' s' J ⟨⟨.of I2 hex f1, f2⟩, a0, oe, vs, T, oT, ts, t1, t2, t3, t4, ⟨.of I2 hex t5, t5'⟩, t6, t7, t8, t9⟩ hE
  | ok fl =>
    cases fl with
    | ret u => exact I2.after hq
    | next => exact False.elim hq
    | brk => exact False.elim hq
    | cont => exact False.elim hq
noncomputable def RpV : V → Prop
  | .str x => x.length ≤ 100 ∧ ∀ c ∈ x.cps.toList, c < 16 ^ 8
  | .int a => a.natAbs.log2 < 1920 ∧ (toString a : Str).length ≤ 1000
  | _ => False
theorem sI {prog : Program} {w : World} : ∀ {vs : List V} {us : List Value}, Vals vs us → (∀ v ∈ vs, RpV v) → ∃ ts, ReprAll prog w us ts ∧ ∀ t ∈ ts, t.length ≤ 1002
  | [], _, h, _ => by cases h; exact ⟨[], .nil, fun _ z => nomatch z⟩
  | v :: vs, _, h, hv => by
    cases h with
    | cons r rr =>
      obtain ⟨ts, h1, h2⟩ := sI (prog := prog) (w := w) rr fun x hx => hv x (List.mem_cons_of_mem _ hx)
      have h0 := hv v List.mem_cons_self
      cases v with
      | str x =>
        obtain ⟨t, rfl⟩ := r
        have hl : (reprText x).length ≤ 1002 := by
          have := PySem.StrLaws.reprText_len x h0.2
          have := h0.1
          omega
        exact ⟨_ :: ts, .cons (ReprIs.str x t (by unfold sizeLine; omega)) h1, fun z hz => by
          rcases List.mem_cons.mp hz with rfl | hz
          · exact hl
          · exact h2 z hz⟩
      | int a =>
        obtain ⟨t, rfl⟩ := r
        exact ⟨_ :: ts, .cons (ReprIs.int t h0.1) h1, fun z hz => by
          rcases List.mem_cons.mp hz with rfl | hz
          · exact Nat.le_trans h0.2 (by omega)
          · exact h2 z hz⟩
      | _ => exact h0.elim
theorem rG : ∀ {ts : List Str}, (∀ t ∈ ts, t.length ≤ 1002) → (ts.map (·.length)).sum ≤ 1002 * ts.length
  | [], _ => Nat.le_refl _
  | t :: ts, h => by
    have h1 := h t List.mem_cons_self
    have h2 := rG fun x hx => h x (List.mem_cons_of_mem _ hx)
    rw [List.map_cons, List.sum_cons, List.length_cons]
    omega
theorem vO {te : TE} {k : Nat} (hr : aU k X.A) (he : PE X e te) : PX X (.FormattedValue e 114 none pos) (fun σ H => te σ H fun v H' => H' = H ∧ ∃ a vs, v = .ref a ∧ vs.length ≤ 10 ∧ SqT X.K H a vs ∧ ∀ v ∈ vs, RpV v) := by
  intro pins s σ H Q I hR hq
  refine wpAny_FormattedValue_repr (thn (he pins s σ H _ I hR) fun u s1 ⟨v, H', I', r, e1, a, vs, e2, hz, hs, hv⟩ => ?_)
  subst e1 e2
  obtain rfl : u = Value.ref a := r
  obtain ⟨its, r1, p1, _⟩ := I'.tuple hs
  obtain ⟨ts, h1, h2⟩ := sI (prog := X.prog) (w := X.w) r1 hv
  obtain ⟨o, ho, hc, n, hd⟩ := id p1
  have hl : (tupleText ts).length ≤ 20000 := by
    have h3 := tupleText_len_le ts
    have h4 := rG h2
    have h5 := h1.length_eq
    have h6 := r1.length
    omega
  refine wpAny_pyReprObj_tuple ⟨o, ho, hc⟩ hr.gd (fun c hc => nomatch hc) hr.units0 ho hd (by simpa using h1) (fun u tk => ?_) (by unfold sizeLine; omega)
  exact formatField_str (fun t' tk' => hq _ t' _ hl ((I'.tok tk).tok tk')) (by unfold sizeLine; omega)
end
end L2
namespace DL
open PySem PySem.Spec PyProof.Rows L2
noncomputable def okI : D → Bool
  | .str x => decide (x.length ≤ 100) && x.cps.toList.all fun c => decide (c < 16 ^ 8)
  | .int a => decide (a.natAbs.log2 < 1920) && decide ((toString a : Str).length ≤ 1000)
  | _ => false
noncomputable def okT (i : Nat) (δ : DSt) : Bool := match δ[i]? with | some (.sh (.tup ds)) => decide (ds.length ≤ 10) && ds.all okI | _ => false
theorem qa {K : PySem.W.Frag} {H : Hp} {Ω : Om} : ∀ {ds : List D} {vs : List V}, au K H Ω ds vs → ds.all okI = true → ∀ v ∈ vs, RpV v
  | [], vs, r, _, v, hv => by cases (show vs = [] from r); cases hv
  | d :: ds, vs, r, h, v, hv => by
    obtain ⟨v0, r0, e1, e2, e3⟩ := (show ∃ v r, _ from r)
    subst e1
    rw [List.all_cons, Bool.and_eq_true] at h
    rcases List.mem_cons.mp hv with rfl | hv
    · have h1 := h.1
      cases d with
      | str x =>
        cases (show v = .str x from e2)
        obtain ⟨z1, z2⟩ := Bool.and_eq_true_iff.mp h1
        exact ⟨of_decide_eq_true z1, fun c hc => of_decide_eq_true (List.all_eq_true.mp z2 c hc)⟩
      | int a =>
        cases (show v = .int a from e2)
        obtain ⟨z1, z2⟩ := Bool.and_eq_true_iff.mp h1
        exact ⟨of_decide_eq_true z1, of_decide_eq_true z2⟩
      | _ => cases h1
    · exact qa e3 h.2 v hv
section
variable {X : Cx} {E : Str → Hp → Prop} {E0 : XK} {pos apos p : Pos} {e : Expr} {es : List Expr} {C : Addr} {k n : Nat} {x m : Str} {r : DM (List DV)} {mp : List Nat}
theorem kA (i : Nat) (hr : aU k X.A) (hN : X.N[i]? = some x := by rfl) (hv : Vis X.env.scope x := by first | exact Or.inl rfl | exact Or.inr (Or.inl rfl) | exact Or.inr (Or.inr rfl)) (hd : (x == ("__debug__" : Str)) = false := by decide)
    (hcd : (x == ("__classdict__" : Str)) = false := by decide) : PXD X (.FormattedValue (.Name x p) 114 none pos) (okT i) :=
  ⟨_, vO hr (pv i hN hv hd hcd), fun {H Ω σ δ} r h => by
    unfold okT at h
    split at h
    · rename_i ds e
      obtain ⟨v, e1, e2⟩ := r.sl i _ e
      obtain ⟨a, vs, z1, z2, z3⟩ := (show ∃ a vs, _ from e2)
      subst z1
      obtain ⟨h1, h2⟩ := Bool.and_eq_true_iff.mp h
      exact ⟨.ref a, join_some e1, rfl, a, vs, rfl, by rw [← z3.length]; exact of_decide_eq_true h1, z2, qa z3 h2⟩
    · cases h⟩
theorem kY (i : Nat) {M : Bd → List D → Rw} {pl : Sem Bool} (T : aV X.K C) (F : MethW X.prog X.w X.K X.mg X.base C k m n M) (hr : aU k X.A) (ha : PAD X E (e :: es) r) (hf : fG m := by exact ⟨by decide +kernel, by decide +kernel, by decide +kernel⟩)
    (hN : X.N[i]? = some x := by rfl) (hv : Vis X.env.scope x := by first | exact Or.inl rfl | exact Or.inr (Or.inl rfl) | exact Or.inr (Or.inr rfl)) (hd : (x == ("__debug__" : Str)) = false := by decide) (hcd : (x == ("__classdict__" : Str)) = false := by decide)
    (hst : starEach (e :: es) X.env = (false, eval e X.env) :: starEach es X.env := by rfl) (hpl : (backTo pos (starEach es X.env)).any (·.1) = false := by rfl)
    (ht : eval (.Call (.Attribute (.Name x p) m apos) (e :: es) [] pos) X.env = (do
      let ov ← eval (.Name x p) X.env
      standAt apos.atName
      let (f, first) ← holding [ov] (getMethod ov m pl)
      callWith pos f first (backTo pos (starEach (e :: es) X.env)) (backToKw pos (keywordEach [] X.env))) := by rfl) :
    PED X E (.Call (.Attribute (.Name x p) m apos) (e :: es) [] pos) (bz i n r M) := by
  obtain ⟨f, fd, ps, F, hm, b⟩ := F.ex
  obtain ⟨t, q, d⟩ := ha
  exact ⟨_, oX (E := fun _ _ _ => True) (pl := pl) (pv i hN hv hd hcd) T.cl hm F hr b .nil gz q hst hpl ht, sT T hf (fun _ _ _ => trivial) d⟩
theorem oW (i : Nat) {M : Bd → List D → Rw} {pl : Sem Bool} (T : aV X.K C) (F : fJ X.prog X.w X.K X.mg X.base C k m n M) (hp : Passes (Fly X.prog X.w) X E0) (hr : aU k X.A) (ha : PAD X (EX X.mg E0) (e :: es) r) (hf : fG m := by exact ⟨by decide +kernel, by decide +kernel, by decide +kernel⟩)
    (hN : X.N[i]? = some x := by rfl) (hv : Vis X.env.scope x := by first | exact Or.inl rfl | exact Or.inr (Or.inl rfl) | exact Or.inr (Or.inr rfl)) (hd : (x == ("__debug__" : Str)) = false := by decide) (hcd : (x == ("__classdict__" : Str)) = false := by decide)
    (hst : starEach (e :: es) X.env = (false, eval e X.env) :: starEach es X.env := by rfl) (hpl : (backTo pos (starEach es X.env)).any (·.1) = false := by rfl)
    (ht : eval (.Call (.Attribute (.Name x p) m apos) (e :: es) [] pos) X.env = (do
      let ov ← eval (.Name x p) X.env
      standAt apos.atName
      let (f, first) ← holding [ov] (getMethod ov m pl)
      callWith pos f first (backTo pos (starEach (e :: es) X.env)) (backToKw pos (keywordEach [] X.env))) := by rfl) :
    PED X (EX X.mg E0) (.Call (.Attribute (.Name x p) m apos) (e :: es) [] pos) (bz i n r M) := by
  obtain ⟨f, fd, ps, F, hm, b⟩ := F.ex
  obtain ⟨t, q, d⟩ := ha
  exact ⟨_, oX (pl := pl) (pv i hN hv hd hcd) T.cl hm F hr b .nil hp q hst hpl ht, sT T hf (fun _ _ z => z) d⟩
theorem xl {K : PySem.W.Frag} {mg : Str → Option Value} {M : Bd → List D → Rw} {t : TA} {fa : DM (List DV)} (i : Nat) (T : aV K C) (hm : fG m) (ha : DA K EN t fa) :
    DXE K mg (fun σ H Q E => eV i σ H fun x H1 => ∃ a dx fs, x = .ref a ∧ H1 a = some (.ins C dx fs) ∧ fs.lookup m = none ∧ t σ H1 fun vs H2 => spW K (dj mg) n M (x :: (vs ++ [])) H2 Q E) (fS i n fa M) := by
  intro σ H δ Ω R Q Ex h
  unfold fS at h
  split at h
  · rename_i hs
    obtain ⟨⟨b0, own0⟩, hb0⟩ := Option.isSome_iff_exists.mp hs
    obtain ⟨p, a1, a2, a3, e0, hp, _⟩ := dF R hb0
    obtain ⟨dx, hi⟩ := hp.bed.ins T
    refine ⟨.ref p, e0, p, dx, _, rfl, hi, hm.none _ _ _, ?_⟩
    refine ha.use R h fun as vs δ1 H1 Ω1 _ s1 R1 r1 h1 => ?_
    (try dsimp only at h1)
    split at h1
    · rename_i ds b own q1 q2
      split at h1
      · rename_i hn
        obtain ⟨p', c1, c2, c3, e1, hp1, hne⟩ := dF R1 q2
        have e2 := e1
        rw [e0] at e1
        cases e1
        rw [List.append_nil]
        refine qY R1 e2 hp1 hne (r1.vals q1) hn (fun d b' q => ?_) (fun es b' q => ?_) (fun c q H' Ω' e t R' => ?_) fun q => ?_
        · rw [q] at h1
          unfold rwX at h1
          dsimp only at h1
          split at h1
          · rename_i ho; exact ⟨ho, fun H' Ω' e R' v rv => h1 H' Ω' e R' v rv⟩
          · exact h1.elim
        · rw [q] at h1
          unfold rwX at h1
          dsimp only at h1
          split at h1
          · rename_i ho; exact ⟨ho, fun H' Ω' e R' v rv => h1 H' Ω' e R' v rv⟩
          · exact h1.elim
        · rw [q] at h1
          exact h1 H' Ω' e R'
        · rw [q] at h1
          exact h1
      · exact h1.elim
    · exact h1.elim
  · exact h.elim
theorem vU (i : Nat) {M : Bd → List D → Rw} {pl : Sem Bool} (T : aV X.K C) (F : fJ X.prog X.w X.K X.mg X.base C k m n M) (hr : aU k X.A) (ha : PAD X.nox EN (e :: es) r) (hex : X.ex = [] := by rfl) (hf : fG m := by exact ⟨by decide +kernel, by decide +kernel, by decide +kernel⟩)
    (hN : X.N[i]? = some x := by rfl) (hv : Vis X.env.scope x := by first | exact Or.inl rfl | exact Or.inr (Or.inl rfl) | exact Or.inr (Or.inr rfl)) (hd : (x == ("__debug__" : Str)) = false := by decide) (hcd : (x == ("__classdict__" : Str)) = false := by decide)
    (hst : starEach (e :: es) X.env = (false, eval e X.env) :: starEach es X.env := by rfl) (hpl : (backTo pos (starEach es X.env)).any (·.1) = false := by rfl)
    (ht : eval (.Call (.Attribute (.Name x p) m apos) (e :: es) [] pos) X.env = (do
      let ov ← eval (.Name x p) X.env
      standAt apos.atName
      let (f, first) ← holding [ov] (getMethod ov m pl)
      callWith pos f first (backTo pos (starEach (e :: es) X.env)) (backToKw pos (keywordEach [] X.env))) := by rfl) :
    PXE X (.Call (.Attribute (.Name x p) m apos) (e :: es) [] pos) (fS i n r M) := by
  obtain ⟨f, fd, ps, F, hm, b⟩ := F.ex
  obtain ⟨t, q, d⟩ := ha
  exact ⟨_, vV (pl := pl) (pv i hN hv hd hcd) T.cl hm F hr hex b .nil q hst hpl ht, xl i T hf d⟩
end
end DL
namespace L2
open PySem PySem.Spec PyProof.Rows PySem.W
structure d4 (k : Nat) (A : Around) : Prop where
  dp : A.depth + 3 * k + 5 < recursionLimit
  un : A.units + 16 * k + 200 < cLine
  gd : A.guards = some []
theorem aU.mark {k : Nat} {A : Around} (r : aU k A) {v : Option Value} : d4 k (A.mark v) := ⟨r.dp, r.un, r.gd⟩
theorem d4.mono {j k : Nat} {A : Around} (r : d4 k A) (h : j ≤ k) : d4 j A := ⟨by have := r.dp; omega, by have := r.un; omega, r.gd⟩
theorem d4.deeper {k : Nat} {A : Around} (r : d4 (k + 1) A) (env : Env) : d4 k (A.deeper env) :=
  ⟨by have := r.dp; change A.depth + 1 + 3 * k + 5 < _; omega, by have := r.un; change A.units + 3 + 16 * k + 200 < _; omega, r.gd⟩
structure kG (P : Program) (w : World) (K : PySem.W.Frag) (mg : Str → Option Value) (base : Heap) (CX : CXT) (k : Nat) (f : Addr) (fd : FuncData) (ps : List Str) (sp : Sp) : Prop where
  len : ∀ vs H Q E, sp vs H Q E → vs.length = ps.length
  run : ∀ (A : Around) (outer : List Env) (s : Shared) (H : Hp) (args : Args) (us : List Value) (vs : List V) (Q : VK) (E : XK), d4 k A → gj P w K mg base A outer s H → BindsTo s fd args (ps.zip us) → Vals vs us → sp vs H Q E →
    codeAny (model P w) A (.call (.ref f) args) (CR CX outer P w H s Q E) s
noncomputable abbrev cxH (CX : CXT) (P : Program) (w : World) (K : PySem.W.Frag) (mg : Str → Option Value) (base : Heap) (N : List Str) (qual : Str) (scope : Scope) (f : Addr) (cd : Value) (A : Around) (outer : List Env) (s : Shared) (H : Hp) (E : XK) : Cx :=
  { bJ CX P w K mg base N qual scope f cd A outer s H E with calm := false }
theorem uR {CX : CXT} {P : Program} {w : World} {K : PySem.W.Frag} {mg : Str → Option Value} {base : Heap} {N : List Str} {qual : Str} {scope : Scope} {f : Addr} {cd : Value} {A : Around} {outer : List Env} {s : Shared} {H : Hp} {E : XK} {pins : List (Addr × Obj)} {σ : St} {H' : Hp} {s' : Shared}
    (I : Inv (bJ CX P w K mg base N qual scope f cd { A with handled := none } outer s H E) pins σ H' s') : Inv (cxH CX P w K mg base N qual scope f cd A outer s H E) pins σ H' s' :=
  ⟨⟨I.ok.mod, I.ok.kind, I.ok.glob, I.ok.blt, I.ok.above, I.ok.inj, I.ok.has, I.ok.cab, (fun z => by cases z), I.ok.frames, I.ok.stk, I.ok.exf, I.ok.bs, I.ok.bsz, I.ok.noex, I.ok.exfs, I.ok.funs, I.ok.frf⟩, I.os, I.bare, I.base, I.loc, I.cell, I.free, I.freeC, I.pin, I.hok, I.len⟩
theorem zg {CX : CXT} {P : Program} {w : World} {K : PySem.W.Frag} {mg : Str → Option Value} {base : Heap} {k : Nat} {f : Addr} {name qual : Str} {params : Arguments} {body : List Stmt} {scope : Scope} {dV kV doc pm cdv ct oc : Value} {an od : Option Addr}
    {osl : Array (Option Value)} {N ps : List Str} {sp : Sp} (lk : K.lookup f = some ⟨oc, od, .func (PySem.W.fnOf name qual params body scope dV kV doc pm an cdv ct), osl⟩) (hcd : PySem.W.codeIn K cdv qual = true) (S : br N ps scope)
    (len : ∀ vs H Q E, sp vs H Q E → vs.length = ps.length)
    (hbody : ∀ (A : Around) (outer : List Env) (s : Shared) (H : Hp) (vs : List V) (Q : VK) (E : XK), d4 k (A.deeper (envOfC qual scope s.heap.objs.size f cdv)) → sp vs H Q E →
      ∃ t, PSs (cxH CX P w K mg base N qual scope f cdv A outer s H E) body t ∧ t { nx := fun _ H' => Q .non H', rt := Q } (start N vs) H) :
    kG P w K mg base CX (k + 1) f (PySem.W.fnOf name qual params body scope dV kV doc pm an cdv ct) ps sp := by
  refine ⟨len, fun A outer s H args us vs Q E hr e0 hb r hsp => ?_⟩
  have hl := len _ _ _ _ hsp
  have KX : K.In s.heap := e0.mod.kin.keeps fun b o e => (e0.bs b o e).1
  have lim : s.heap.NoLimit := e0.mod.nolimit.keeps fun b o e => (e0.bs b o e).1
  have hkind : ∀ y ∈ ps.zip us, scope.names.lookup y.1 = some .local ∨ (scope.names.lookup y.1 = some .cell ∧ ((cellsFrom (s.heap.objs.size + 1) scope.names []).lookup y.1).isSome = true) := fun ⟨n, v⟩ hy => by
    rcases S.par n (List.of_mem_zip hy).1 with q | q
    · exact .inl q
    · exact .inr ⟨q, PySem.W.cellsFrom_some _ _ _ (.inl q)⟩
  refine codeAny_call_function (by have := hr.dp; omega) (KX _ _ lk) rfl S.co S.gen rfl (PySem.W.codeRec_of KX hcd) (hb _ _ _ _ ?_)
  refine wpAny_newFunctionEnv_cells S.kind hkind fun env he s1 x => ?_
  subst he
  refine ⟨lim.keeps x.toInCall.keep, codeAny_func ?_⟩
  obtain ⟨t, ht, hq⟩ := hbody A outer s H vs Q E (hr.deeper _) hsp
  have e1 : gj P w K mg base { A with handled := none } outer s H := ⟨e0.frames, e0.mod, e0.bs, e0.bsz, e0.funs, e0.frf, e0.hok, e0.bare⟩
  have I : Inv (cxH CX P w K mg base N qual scope f cdv A outer s H E) [] (start N vs) H s1 := uR (rW S rfl e1 hl r x)
  refine wpAny_mono (ht [] s1 (start N vs) H _ I hq) (fun fl s' hs => ?_) fun e s' hs => hs
  have fin : ∀ {σ' : St} {H' : Hp} {v : V} {u : Value}, Inv (cxH CX P w K mg base N qual scope f cdv A outer s H E) [] σ' H' s' → RelV v u → Q v H' → CE outer P w H s Q u s' :=
    fun {σ' H' v u} J rv q => ⟨v, H', J.os, J.bare, J.base, J.hok, rv, q⟩
  cases fl with
  | ret u =>
    obtain ⟨v, σ', H', J, rv, q⟩ := hs
    exact fin J rv q
  | next =>
    obtain ⟨σ', H', J, q⟩ := hs
    exact fin (v := V.non) (u := Value.none) J rfl q
  | brk =>
    obtain ⟨_, _, _, q⟩ := hs
    exact False.elim q
  | cont =>
    obtain ⟨_, _, _, q⟩ := hs
    exact False.elim q
section
variable {X : Cx} {CX : CXT} {k : Nat} {f : Addr} {fd : FuncData} {ps : List Str} {sp : Sp} {dvs : List V} {ds : List Value} {E : XK} {x : Str} {p pos : Pos} {e : Expr} {es : List Expr} {t : TA}
theorem yi (F : kG X.prog X.w X.K X.mg X.base CX k f fd ps sp) (hr : d4 k X.A) (hg : Gl X x) (hm : X.mg x = some (.ref f)) (hk : PySem.W.keepIn X.K (.ref f) = true) (hb : Binds X.K fd ps ds) (hd : Vals dvs ds) (hx : Passes CX X E)
    (ha : PA X (e :: es) t) (hdb : (x == ("__debug__" : Str)) = false := by decide) (he : starEach (e :: es) X.env = (false, eval e X.env) :: starEach es X.env := by rfl) (hpl : (backTo pos (starEach es X.env)).any (·.1) = false := by rfl) :
    PE X (.Call (.Name x p) (e :: es) [] pos) (ji sp dvs E t) := by
  intro pins s σ H Q I h
  refine wpAny_Call_Name_kw (iO I hg hm ?_ hdb)
  refine PySem.W.callWith_K (h₀ := X.base) I.ok.mod.kin hk (thn (ha pos pins s σ H _ I h) fun us s1 ⟨vs, H1, I1, r, q⟩ => ⟨I1.kIn, ?_⟩) he hpl
  have r2 : Vals (vs ++ dvs) (us ++ ds) := r.append hd
  have hl : (us ++ ds).length = ps.length := by rw [← r2.length]; exact F.len _ _ _ _ q
  refine wpAny_call (codeAny_mono (F.run X.A X.stack s1 H1 ⟨us, []⟩ (us ++ ds) (vs ++ dvs) Q E hr I1.env0 (hb s1 us I1.kIn hl) r2 q) fun r s' hq => ?_)
  cases r with
  | error e => exact hx pins σ H1 s1 e s' I1 hq
  | ok fl =>
    cases fl with
    | ret u => exact I1.after hq
    | next => exact False.elim hq
    | brk => exact False.elim hq
    | cont => exact False.elim hq
end
end L2
namespace DL
open PySem PySem.Spec PyProof.Rows L2
structure nC (P : Program) (w : World) (K : PySem.W.Frag) (mg : Str → Option Value) (base : Heap) (k : Nat) (x : Str) (n : Nat) (M : List D → Ro) : Prop where
  ex : ∃ (f : Addr) (fd : FuncData) (ps : List Str), kG P w K mg base CX0 k f fd ps (spP K (fun _ => .none) n M) ∧ mg x = some (.ref f) ∧ PySem.W.keepIn K (.ref f) = true ∧ Binds K fd ps []
theorem fnH {P : Program} {w : World} {K : PySem.W.Frag} {mg : Str → Option Value} {base : Heap} {x qual : Str} {st : Stmt} {f : Addr} {fd : FuncData} {N ps : List Str} {k : Nat} {body : DM Fl} (F : Fun K x qual st f fd) (S : br N ps (aH st))
    (hb : ∀ (cdv : Value) (A : Around) (outer : List Env) (s : Shared) (H : Hp) (E : XK), d4 k (A.deeper (envOfC qual (aH st) s.heap.objs.size f cdv)) →
      dN (cxH CX0 P w K mg base N qual (aH st) f cdv A outer s H E).nox EN [] (bo st) body) : kG P w K mg base CX0 (k + 1) f fd ps (spP K (fun _ => .none) ps.length (bV body N.length)) := by
  obtain ⟨oc, od, kV, doc, pm, an, cdv, ct, osl, rfl, lk, hcd⟩ := F.ex
  refine zg lk hcd S (fun vs H Q E h => h.1) (fun A outer s H vs Q E hr h => ?_)
  obtain ⟨ts, p, d⟩ := hb cdv A outer s H E hr
  refine ⟨ts, p.nox, ?_⟩
  obtain ⟨hl, Ω, ds, ht, h0, hr, hq⟩ := h
  refine d (L2.start N vs) H _ Ω (ar.start hr ht) _ ?_
  unfold bV at hq
  cases e : body (ds.map .sh ++ List.replicate (N.length - ds.length) .no) with
  | un => rw [e] at hq; exact hq
  | er c => rw [e] at hq; exact hq.elim
  | ok fl δ' =>
    rw [e] at hq
    cases fl with
    | nx => exact fun H' Ω' ex σ' R' _ => hq H' Ω' ex R'.trk .non rfl
    | bk => exact hq.elim
    | ct => exact hq.elim
    | rt d => exact fun H' Ω' ex σ' R' _ v r => hq H' Ω' ex R'.trk v r
    | rto es => exact fun H' Ω' ex σ' R' _ v r => hq H' Ω' ex R'.trk v r
section
variable {X : Cx} {pos : Pos} {e : Expr}
theorem oG {k n : Nat} {x : Str} {M : List D → Ro} {p : Pos} {es : List Expr} {r : DM (List DV)} (F : nC X.prog X.w X.K X.mg X.base k x n M) (hr : d4 k X.A) (ha : PAD X EN (e :: es) r) (hg : Gl X x := by rfl)
    (hdb : (x == ("__debug__" : Str)) = false := by decide) (he : starEach (e :: es) X.env = (false, eval e X.env) :: starEach es X.env := by rfl) (hpl : (backTo pos (starEach es X.env)).any (·.1) = false := by rfl) :
    PED X EN (.Call (.Name x p) (e :: es) [] pos) (aR n r M) := by
  obtain ⟨fa, fd, ps, F, hm, kp, b⟩ := F.ex
  obtain ⟨t, q, d⟩ := ha
  exact ⟨_, yi F hr hg hm kp b .nil gz q hdb he hpl, pE (fun _ _ z => z) d⟩
noncomputable def jm (d : D) (fx : DM (Sum Str DV)) : DM (Sum Str DV) := fx.bd fun r δ => match r with
  | .inl c => .ok (.inl c) δ
  | .inr (.val y) => .ok (.inr (.val (.tup [d, y]))) δ
  | .inr (.own ys) => .ok (.inr (.val (.tup [d, .lst ys]))) δ
  | _ => .un
end
end DL
namespace DL
open PySem PySem.Spec PyProof.Rows L2
section
variable {X : Cx} {pos : Pos} {e : Expr}
theorem ye {w : Str} {j : Nat} {k : Nat} {p1 : Pos} {fx : DM (Sum Str DV)} (he : PXE X e fx) (hs : starEach [.Constant (.str w) j p1, e] X.env = (false, eval (.Constant (.str w) j p1) X.env) :: starEach [e] X.env := by rfl) (hs2 : starEach [e] X.env = (false, eval e X.env) :: starEach [] X.env := by rfl) :
    PXE X (.Tuple [.Constant (.str w) j p1, e] k pos) (jm (.str w) fx) := by
  obtain ⟨t, q, d⟩ := he
  refine ⟨_, zm (Ax mm (uD q hs2) hs), fun σ H δ Ω R Q Ex h => ?_⟩
  refine d σ H δ Ω R _ _ (Wg.bd h fun r δ1 H1 Ω1 ex w1 => ?_)
  cases r with
  | inl c => exact fun R1 => w1 H1 Ω1 .refl R1
  | inr a =>
    cases a with
    | val y =>
      intro R1 v rv
      exact ⟨by change 2 ≤ sizeLine; decide, fun p hp => Wg.allocT (ds := [.str w, y]) (E := EN) (fun H2 Ω2 e2 R2 u ru => w1 H2 Ω2 e2 R2 u ru) R1 hp (.cons rfl (.cons rv .nil))⟩
    | own ys =>
      intro R1 v rv
      obtain ⟨Ω2, R2, rv2, e2⟩ := cA.norm R1 rv
      exact ⟨by change 2 ≤ sizeLine; decide, fun p hp => Wg.allocT (ds := [.str w, .lst ys]) (E := EN) (fun H3 Ω3 e3 R3 u ru => w1 H3 Ω3 (e2.trans e3) R3 u ru) R2 hp (.cons rfl (.cons rv2 .nil))⟩
    | slot i => exact w1.elim
    | fld _ _ => exact w1.elim
end
end DL
namespace DL
open PySem PySem.Spec PyProof.Rows L2
section
variable {K : PySem.W.Frag} {E : Str → Hp → Prop} {H H' : Hp} {Ω Ω' : Om} {σ : St} {δ δ' : DSt}
end
section
variable {X : Cx} {E : Str → Hp → Prop} {e : Expr} {f : DM DV}
end
end DL
namespace DL
open PySem PySem.Spec PyProof.Rows L2
section
variable {X : Cx}
theorem xK : OpR X (compareOp .IsNot) (fun x y H Q => ∃ c d, x = .bl c ∧ y = .bl d ∧ Q (.bl (c != d)) H) := by
  intro pins s σ H x y v u Q I rx ry h
  obtain ⟨c, d, rfl, rfl, q⟩ := h
  cases rx
  cases ry
  exact isnot_bool (nR I q rfl)
noncomputable def lR : D → D → Option DV
  | .bl c, .bl d => some (.val (.bl (c != d)))
  | _, _ => none
theorem AR : gh X .IsNot lR := ⟨_, xK, by
  intro E σ H δ Ω x y d1 d2 z Q R r1 r2 hz h
  unfold lR at hz
  split at hz
  · rename_i c d
    cases hz
    exact ⟨c, d, r1, r2, h.now R rfl⟩
  · cases hz⟩
end
end DL
namespace DL
open PySem PySem.Spec PyProof.Rows L2
end DL
namespace L2
open PySem PySem.Spec PyProof.Rows PySem.W
section
variable {X : Cx} {pos apos : Pos} {o : Expr} {ta : TE} {m : Str} {C : Addr}
end
end L2
namespace DL
open PySem PySem.Spec PyProof.Rows L2
section
variable {X : Cx} {pos apos p : Pos} {C : Addr} {k n : Nat} {x m : Str}
end
end DL
namespace Lw
open PySem L2 DL PyProof.Rows
noncomputable def lB : List (Str × Str) := [("f", "b"), ("b", "f")]
noncomputable abbrev ug : D := .int 2
noncomputable abbrev nV : D := .int 4
noncomputable def j1 : List (Str × Str) := [("f", "k"), ("b", "p")]
noncomputable def top (i : Nat) : Stmt := PySem.Challenge.pw_loopbed_k12_deeds_on_a_bed.main.body.getD i (.Pass ⟨0, 0, 0, 0⟩)
theorem yQ : bootBuiltins "ValueError" = some (.type "ValueError") := by decide +kernel
theorem yw : bootBuiltins "abs" = some (.builtin "abs") := by decide +kernel
theorem uz : bootBuiltins "all" = some (.builtin "all") := by decide +kernel
theorem uN : bootBuiltins "bool" = some (.type "bool") := by decide +kernel
theorem AV : bootBuiltins "int" = some (.type "int") := by decide +kernel
theorem cS : bootBuiltins "len" = some (.builtin "len") := by decide +kernel
theorem lF : bootBuiltins "list" = some (.type "list") := by decide +kernel
theorem xE : bootBuiltins "max" = some (.builtin "max") := by decide +kernel
theorem vF : bootBuiltins "min" = some (.builtin "min") := by decide +kernel
theorem pR : bootBuiltins "str" = some (.type "str") := by decide +kernel
theorem pe : bootBuiltins "tuple" = some (.type "tuple") := by decide +kernel
noncomputable def nK : Str → Option Bool := fun c => ([("Empty", true), ("Overfull", true), ("TooFar", true)] : List (Str × Bool)).lookup c
noncomputable def gR : Str → Option Bool := fun c => ([("Empty", true), ("Overfull", false), ("TooFar", false)] : List (Str × Bool)).lookup c
noncomputable def pz : Str → Option Bool := fun c => ([("Empty", true), ("Overfull", true), ("TooFar", true)] : List (Str × Bool)).lookup c
noncomputable def ou : Str → Option Bool := fun c => ([("Empty", false), ("Overfull", false), ("TooFar", false)] : List (Str × Bool)).lookup c
noncomputable def gQ : Str → Option Bool := fun c => ([("Empty", false), ("Overfull", true), ("TooFar", false)] : List (Str × Bool)).lookup c
noncomputable def gN : Str → Option Bool := fun c => ([("Empty", false), ("Overfull", false), ("TooFar", true)] : List (Str × Bool)).lookup c
noncomputable def sg : Str → Option Bool := fun c => ([("Empty", true), ("Overfull", true), ("TooFar", true)] : List (Str × Bool)).lookup c
structure Txt (K : PySem.W.Frag) (mg : Str → Option Value) : Prop where
  b_ValueError : mg "ValueError" = none
  b_abs : mg "abs" = none
  b_all : mg "all" = none
  b_bool : mg "bool" = none
  b_int : mg "int" = none
  b_isinstance : mg "isinstance" = none
  b_len : mg "len" = none
  b_list : mg "list" = none
  b_max : mg "max" = none
  b_min : mg "min" = none
  b_range : mg "range" = none
  b_str : mg "str" = none
  b_tuple : mg "tuple" = none
  g_ACROSS : mG K mg "ACROSS" lB
  g_FARTHEST : ki K mg "FARTHEST" ug
  g_MOST_BORNE : ki K mg "MOST_BORNE" nV
  g_WAYS : mG K mg "WAYS" j1
  e_Empty : ∃ C, hU K mg "Empty" C
  e_Overfull : ∃ C, hU K mg "Overfull" C
  e_TooFar : ∃ C, hU K mg "TooFar" C
  h_BedFault : ∃ D, mg "BedFault" = some (.ref D) ∧ fB K mg (.ref D) nK ∧ eO K (.ref D) nK
  h_Empty : ∃ D, mg "Empty" = some (.ref D) ∧ fB K mg (.ref D) gR ∧ eO K (.ref D) gR
  h_LoopError : ∃ D, mg "LoopError" = some (.ref D) ∧ fB K mg (.ref D) pz ∧ eO K (.ref D) pz
  h_NothingDone : ∃ D, mg "NothingDone" = some (.ref D) ∧ fB K mg (.ref D) ou ∧ eO K (.ref D) ou
  h_Overfull : ∃ D, mg "Overfull" = some (.ref D) ∧ fB K mg (.ref D) gQ ∧ eO K (.ref D) gQ
  h_TooFar : ∃ D, mg "TooFar" = some (.ref D) ∧ fB K mg (.ref D) gN ∧ eO K (.ref D) gN
  h_ValueError : eO K (.type "ValueError") sg
theorem x9 : (["spot", "self"] : List Str).Nodup := by decide +kernel
theorem vH : (["k"] : List Str).Nodup := by decide +kernel
theorem uJ : (["held"] : List Str).Nodup := by decide +kernel
theorem xY : (["step"] : List Str).Nodup := by decide +kernel
theorem zH : (["k", "deeds"] : List Str).Nodup := by decide +kernel
section
variable {P : Program} {w : World} {K : PySem.W.Frag} {mg : Str → Option Value} {base : Heap}
noncomputable abbrev iX : Stmt := inClass (top 13) 0
theorem Ab : br ["self"] ["self"] (aH iX) := ⟨rfl, rfl, rfl, by decide +kernel, rfl, by decide +kernel, by decide +kernel⟩
theorem xc {f C : Addr} {fd : FuncData} (F : Fun K "__init__" "Bed.__init__" iX f fd) (TB : aV K C) : aO P w K mg base CX0 1 f fd ["self"] (ui C) := by
  refine F.ok Ab (fun vs H Q E h => ?_) (fun cdv A outer s H vs Q E hr h => ?_)
  · obtain ⟨p, dx, rfl, _⟩ := h
    rfl
  · obtain ⟨p, dx, rfl, hp, k⟩ := h
    exact ⟨_, nE (o6 (pv 0) wL rfl) (nE (o6 (pv 0) (mH eA) rfl) (nq (o6 (pv 0) (mH eA) rfl))), uV TB hp k⟩
noncomputable abbrev jy : Stmt := top 21
theorem yd : br ["hooks", "row", "at"] ["hooks", "row", "at"] (aH jy) := ⟨rfl, rfl, rfl, by decide +kernel, rfl, by decide +kernel, by decide +kernel⟩
noncomputable def rX : DM Fl :=
    (ax (fIf (aA (af (aa 1) (fC (.str "f")) gEq)) (aF (af (aa 0) (aa 2) gIx)) aM)
    (aF (af (aa 0) (af (fC (.int 16)) (aa 2) bj) gIx)))
noncomputable def dJ : List D → List (List D) → Rn := runN rX 3 [0]
theorem wV {f : Addr} {fd : FuncData} (F : Fun K "_law_hook" "_law_hook" jy f fd) (T : Txt K mg) {C : Addr} (TB : aV K C)  : aO P w K mg base CX0 1 f fd ["hooks", "row", "at"] (spN K 3 [0] dJ) :=
  fnN [0] F yd fun cdv A outer s H E hr =>
      (aE (bc (aY (cD hr.units) (ag 1) bg (ba _)) (aG (aP (aI (ag 0) (ag 2)))) bq)
      (aG (aP (aI (ag 0) (aN da aw (ag 2))))))
noncomputable abbrev jl : Stmt := top 22
theorem mO : br ["hooks", "deed", "here", "other"] ["hooks", "deed"] (aH jl) := ⟨rfl, rfl, rfl, by decide +kernel, rfl, by decide +kernel, by decide +kernel⟩
noncomputable def oy : DM Fl :=
    (ax (aL 2 (cJ 3 [0] (ae (aa 0) (ae (af (aa 1) (fC (.int 1)) gIx) (ae (af (aa 1) (fC (.int 2)) gIx) ah))) dJ))
    (ax (fIf (aA (af (af (aa 1) (fC (.int 0)) gIx) (fC (.str "move")) gEq)) (ax (fIf (bA (aA (af (af (af (aa 1) (fC (.int 2)) gIx) (af (aa 1) (fC (.int 3)) gIx) cV) (fC (.int 2)) (bU gt))) (aA (af (af (af (aa 1) (fC (.int 3)) gIx) (af (aa 1) (fC (.int 2)) gIx) cV) (fC (.int 2)) (bU gt)))) (aF (fC (.str "far"))) aM)
    (ax (fIf (aA (af (aa 2) (bF ah) gEq)) (aF (fC (.str "empty"))) aM)
    (ax (aL 3 (fC (.str "f")))
    (ax (fIf (aA (af (af (aa 1) (fC (.int 1)) gIx) (fC (.str "f")) gEq)) (aL 3 (fC (.str "b"))) aM)
    (ax (fIf (aA (af (af (fCB (ae (aa 2) ah) aZ) (fCB (ae (cJ 3 [0] (ae (aa 0) (ae (aa 3) (ae (af (aa 1) (fC (.int 3)) gIx) ah))) dJ) ah) aZ) bj) (fC (.int 4)) (bU gt))) (aF (fC (.str "full"))) aM)
    (aF (fC .non))))))) aM)
    (ax (fIf (cO (aA (af (af (aa 1) (fC (.int 0)) gIx) (fC (.str "knit")) gEq)) (aA (af (aa 2) (bF ah) gEq))) (aF (fC (.str "empty"))) aM)
    (ax (fIf (cO (aA (af (af (aa 1) (fC (.int 0)) gIx) (fC (.str "tuck")) gEq)) (aA (af (fCB (ae (aa 2) ah) aZ) (fC (.int 4)) gEq))) (aF (fC (.str "full"))) aM)
    (aF (fC .non))))))
noncomputable def eZ : List D → List (List D) → Rn := runN oy 4 [0]
theorem vC {f : Addr} {fd : FuncData} (F : Fun K "_law_word" "_law_word" jl f fd) (T : Txt K mg) {C : Addr} (TB : aV K C) (F_hook : iq P w K mg base 1 "_law_hook" 3 [0] dJ) : aO P w K mg base CX0 2 f fd ["hooks", "deed"] (spN K 2 [0] eZ) :=
  fnN [0] F mO fun cdv A outer s H E hr =>
      (aE (bt 2 mO.nd (mF F_hook (hr.mono (by decide)) (ao (ag 0) (ao (aI (ag 1) aw) (ao (aI (ag 1) aw) ay)))))
      (aE (bc (aY (cD hr.units) (aI (ag 1) aw) bg (ba _)) (aE (bc (de (dH (aY cmp_gt (aN ig (aI (ag 1) aw) (aI (ag 1) aw)) aw (ba _)) (d5 (aY cmp_gt (aN ig (aI (ag 1) aw) (aI (ag 1) aw)) aw (ba _))))) (aG (aP bg)) bq)
      (aE (bc (aY (cD hr.units) (ag 2) (eo ay) (ba _)) (aG (aP bg)) bq)
      (aE (bt 3 mO.nd bg)
      (aE (bc (aY (cD hr.units) (aI (ag 1) aw) bg (ba _)) (aG (bt 3 mO.nd bg)) bq)
      (aE (bc (aY cmp_gt (aN da (cf cL T.b_len cS (ao (ag 2) ay)) (cf cL T.b_len cS (ao (mF F_hook (hr.mono (by decide)) (ao (ag 0) (ao (ag 3) (ao (aI (ag 1) aw) ay)))) ay))) aw (ba _)) (aG (aP bg)) bq)
      (aG (aP fq))))))) bq)
      (aE (bc (de (nj (aY (cD hr.units) (aI (ag 1) aw) bg (ba _)) (lS (aY (cD hr.units) (ag 2) (eo ay) (ba _))))) (aG (aP bg)) bq)
      (aE (bc (de (nj (aY (cD hr.units) (aI (ag 1) aw) bg (ba _)) (lS (aY (cD hr.units) (cf cL T.b_len cS (ao (ag 2) ay)) aw (ba _))))) (aG (aP bg)) bq)
      (aG (aP fq))))))
noncomputable abbrev ju : Stmt := inClass (top 13) 9
theorem yE : br ["self", "spot"] ["self", "spot"] (aH ju) := ⟨rfl, rfl, rfl, by decide +kernel, rfl, by decide +kernel, by decide +kernel⟩
noncomputable def sO : DM Fl :=
    (aF (kX 0 (aa 1)))
noncomputable def cn : List D → Ro := bV sO 2
theorem yS {f : Addr} {fd : FuncData} (F : Fun K "loops_at" "Bed.loops_at" ju f fd) (T : Txt K mg) {C : Addr} (TB : aV K C)  : aO P w K mg base CX0 1 f fd ["self", "spot"] (spP K (fun _ => .none) 2 cn) :=
  fnP F yE fun cdv A outer s H E hr =>
      (aG (aP (zF 0 TB (kP hr) (ag 1))))
noncomputable abbrev jc : Stmt := inClass (top 13) 10
theorem zV : br ["self", "deed", "spots"] ["self", "deed", "spots"] (aH jc) := ⟨rfl, rfl, rfl, by decide +kernel, rfl, by decide +kernel, by decide +kernel⟩
noncomputable def rB : DM Fl :=
    (kq 0 (bu (ae (aa 1) (ae (j0 0 (fLC (fIt (aa 2) jE) (bw 0) (.ret true) (bu (ae (aa 0) (ae (aX 1 2 (ae (aa 0) ah) cn) ah))) [none, some 0])) ah))))
noncomputable def cR : Bd → List D → Rw := cY rB 3
theorem Bp {f : Addr} {fd : FuncData} (F : Fun K "keep" "Bed.keep" jc f fd) (T : Txt K mg) {C : Addr} (TB : aV K C) (F_Bed_loops_at : MethP P w K mg base C 1 "loops_at" 2 cn) : aO P w K mg base CX0 2 f fd ["self", "deed", "spots"] (spW K (fun _ => .none) 3 cR) :=
  fnW F zV fun cdv A outer s H E hr =>
      (aG (vr 0 TB (cW (ao (ag 1) (ao (wy 0 (mj (N := ["spot", "self"]) (sel := [none, some 0]) ⟨rfl, rfl, rfl, rfl, rfl, rfl⟩ rfl (oU (ag 2)) (fun _ => fQ x9) (fun _ => mI) (fun _ => (cW (ao (ag 0) (ao (fI 1 TB F_Bed_loops_at (hr.mono (by decide)) (ao (ag 0) ay)) ay)))))) ay)))))
noncomputable abbrev jv : Stmt := inClass (top 13) 8
theorem ku : br ["self", "deed", "source", "goal", "loops", "together"] ["self", "deed"] (aH jv) := ⟨rfl, rfl, rfl, by decide +kernel, rfl, by decide +kernel, by decide +kernel⟩
noncomputable def gX : DM Fl :=
    (ax (aL 2 (gn (ae (af (aa 1) (fC (.int 1)) gIx) (ae (af (aa 1) (fC (.int 2)) gIx) ah))))
    (ax (aL 3 (gn (ae (fUn (af (aa 1) (fC (.int 1)) gIx) (gS lB)) (ae (af (aa 1) (fC (.int 3)) gIx) ah))))
    (ax (fIf (aA (af (fCB (ae (af (af (aa 1) (fC (.int 2)) gIx) (af (aa 1) (fC (.int 3)) gIx) cV) ah) oo) (fC ug) (bU gt))) (gq "TooFar" (fun δ => (fun _ => true) δ && (fun δ => (fun _ => true) δ && (fun δ => (fun _ => true) δ && (fun δ => (okT 1) δ && (fun _ => true) δ) δ) δ) δ)) aM)
    (ax (aL 4 (aX 0 2 (ae (aa 2) ah) cn))
    (ax (fIf (bO (kF (aa 4))) (gq "Empty" (fun δ => (fun _ => true) δ && (fun δ => (okT 1) δ && (fun _ => true) δ) δ)) aM)
    (ax (aL 5 (af (aX 0 2 (ae (aa 3) ah) cn) (aa 4) jt))
    (ax (fIf (aA (af (fCB (ae (aa 5) ah) aZ) (fC nV) (bU gt))) (gq "Overfull" (fun δ => (fun _ => true) δ && (fun δ => (okT 1) δ && (fun _ => true) δ) δ)) aM)
    (ax (gx (bz 0 3 (ae (aa 1) (ae (bF (ae (aa 2) (ae (aa 3) ah))) ah)) cR))
    (ax (ix 0 (bu ah) (aa 2))
    (ax (ix 0 (aa 5) (aa 3))
    (aF (fC .non))))))))))))
noncomputable def g0 : Bd → List D → Rw := fK gX 6
theorem Bt {f : Addr} {fd : FuncData} (F : Fun K "move" "Bed.move" jv f fd) (T : Txt K mg) {C : Addr} (TB : aV K C) (F_Bed_loops_at : MethP P w K mg base C 1 "loops_at" 2 cn) (F_Bed_keep : MethW P w K mg base C 2 "keep" 3 cR) : aO P w K mg base (Fly P w) 3 f fd ["self", "deed"] (spW K (dj mg) 2 g0) :=
  lL F ku fun cdv A outer s H E hr =>
      (aE (bt 2 ku.nd (ll (ao (aI (ag 1) aw) (ao (aI (ag 1) aw) ay))))
      (aE (bt 3 ku.nd (ll (ao (sf T.g_ACROSS (aI (ag 1) aw)) (ao (aI (ag 1) aw) ay))))
      (aE (bc (aY cmp_gt (cf ya T.b_abs yw (ao (aN ig (aI (ag 1) aw) (aI (ag 1) aw)) ay)) (nA T.g_FARTHEST) (ba _)) (aG (kx lp rfl T.e_TooFar.choose_spec (kf (ed jR (ed (xt T.g_FARTHEST) (ed jR (ed (kA 1 hr) kH))))))) bq)
      (aE (bt 4 ku.nd (fI 0 TB F_Bed_loops_at (hr.mono (by decide)) (ao (ag 2) ay)))
      (aE (bc (dn (tJ (ag 4))) (aG (kx lp rfl T.e_Empty.choose_spec (kf (ed jR (ed (kA 1 hr) kH))))) bq)
      (aE (bt 5 ku.nd (aN p7 (fI 0 TB F_Bed_loops_at (hr.mono (by decide)) (ao (ag 3) ay)) (ag 4)))
      (aE (bc (aY cmp_gt (cf cL T.b_len cS (ao (ag 5) ay)) (nA T.g_MOST_BORNE) (ba _)) (aG (kx lp rfl T.e_Overfull.choose_spec (kf (ed jR (ed (kA 1 hr) kH))))) bq)
      (aE (mU (kY 0 TB F_Bed_keep (hr.mono (by decide)) (ao (ag 1) (ao (eo (ao (ag 2) (ao (ag 3) ay))) ay))))
      (aE (lx 0 TB (kP hr) (cW ay) (ag 2))
      (aE (lx 0 TB (kP hr) (ag 5) (ag 3))
      (aG (aP fq))))))))))))
noncomputable abbrev iT : Stmt := inClass (top 13) 11
theorem xj : br ["self", "yarn", "way", "held"] ["self", "yarn", "way", "held"] (aH iT) := ⟨rfl, rfl, rfl, by decide +kernel, rfl, by decide +kernel, by decide +kernel⟩
noncomputable def qm : DM Fl :=
    (ax (kj 0 (bu (ae (aa 1) (ae (aa 2) (ae (aa 3) ah)))))
    (aF (af (fCB (ae (fR 0 1) ah) aZ) (fC (.int 1)) cV)))
noncomputable def dZ : Bd → List D → Rw := cY qm 4
theorem wJ {f : Addr} {fd : FuncData} (F : Fun K "new_loop" "Bed.new_loop" iT f fd) (T : Txt K mg) {C : Addr} (TB : aV K C)  : aO P w K mg base CX0 1 f fd ["self", "yarn", "way", "held"] (spW K (fun _ => .none) 4 dZ) :=
  fnW F xj fun cdv A outer s H E hr =>
      (aE (xI 0 TB (cW (ao (ag 1) (ao (ag 2) (ao (ag 3) ay)))))
      (aG (aP (aN ig (cf cL T.b_len cS (ao (pO 0 TB) ay)) aw))))
noncomputable abbrev iP : Stmt := inClass (top 13) 6
theorem m8 : br ["self", "deed", "spot", "loops", "number"] ["self", "deed"] (aH iP) := ⟨rfl, rfl, rfl, by decide +kernel, rfl, by decide +kernel, by decide +kernel⟩
noncomputable def md : DM Fl :=
    (ax (aL 2 (gn (ae (af (aa 1) (fC (.int 1)) gIx) (ae (af (aa 1) (fC (.int 2)) gIx) ah))))
    (ax (aL 3 (aX 0 2 (ae (aa 2) ah) cn))
    (ax (fIf (bO (kF (aa 3))) (gq "Empty" (fun δ => (fun _ => true) δ && (fun δ => (okT 1) δ && (fun _ => true) δ) δ)) aM)
    (ax (gx (bz 0 3 (ae (aa 1) (ae (bF (ae (aa 2) ah)) ah)) cR))
    (ax (aL 4 (bz 0 4 (ae (af (aa 1) (fC (.int 3)) gIx) (ae (fUn (af (aa 1) (fC (.int 1)) gIx) (gS j1)) (ae (aa 3) ah))) dZ))
    (ax (ix 0 (bu (ae (aa 4) ah)) (aa 2))
    (aF (aa 4))))))))
noncomputable def gY : Bd → List D → Rw := fK md 5
theorem ux {f : Addr} {fd : FuncData} (F : Fun K "knit" "Bed.knit" iP f fd) (T : Txt K mg) {C : Addr} (TB : aV K C) (F_Bed_loops_at : MethP P w K mg base C 1 "loops_at" 2 cn) (F_Bed_keep : MethW P w K mg base C 2 "keep" 3 cR) (F_Bed_new_loop : MethW P w K mg base C 1 "new_loop" 4 dZ) : aO P w K mg base (Fly P w) 3 f fd ["self", "deed"] (spW K (dj mg) 2 gY) :=
  lL F m8 fun cdv A outer s H E hr =>
      (aE (bt 2 m8.nd (ll (ao (aI (ag 1) aw) (ao (aI (ag 1) aw) ay))))
      (aE (bt 3 m8.nd (fI 0 TB F_Bed_loops_at (hr.mono (by decide)) (ao (ag 2) ay)))
      (aE (bc (dn (tJ (ag 3))) (aG (kx lp rfl T.e_Empty.choose_spec (kf (ed jR (ed (kA 1 hr) kH))))) bq)
      (aE (mU (kY 0 TB F_Bed_keep (hr.mono (by decide)) (ao (ag 1) (ao (eo (ao (ag 2) ay)) ay))))
      (aE (bt 4 m8.nd (kY 0 TB F_Bed_new_loop (hr.mono (by decide)) (ao (aI (ag 1) aw) (ao (sf T.g_WAYS (aI (ag 1) aw)) (ao (ag 3) ay)))))
      (aE (lx 0 TB (kP hr) (cW (ao (ag 4) ay)) (ag 2))
      (aG (aP (ag 4)))))))))
noncomputable abbrev jb : Stmt := inClass (top 13) 7
theorem lH : br ["self", "deed", "spot", "loops", "number"] ["self", "deed"] (aH jb) := ⟨rfl, rfl, rfl, by decide +kernel, rfl, by decide +kernel, by decide +kernel⟩
noncomputable def mr : DM Fl :=
    (ax (aL 2 (gn (ae (af (aa 1) (fC (.int 1)) gIx) (ae (af (aa 1) (fC (.int 2)) gIx) ah))))
    (ax (aL 3 (aX 0 2 (ae (aa 2) ah) cn))
    (ax (fIf (aA (af (fCB (ae (aa 3) ah) aZ) (fC nV) (bU ge))) (gq "Overfull" (fun δ => (fun _ => true) δ && (fun δ => (okT 1) δ && (fun _ => true) δ) δ)) aM)
    (ax (gx (bz 0 3 (ae (aa 1) (ae (bF (ae (aa 2) ah)) ah)) cR))
    (ax (aL 4 (bz 0 4 (ae (af (aa 1) (fC (.int 3)) gIx) (ae (fC (.str "t")) (ae (bu ah) ah))) dZ))
    (ax (ix 0 (af (aa 3) (bu (ae (aa 4) ah)) jt) (aa 2))
    (aF (aa 4))))))))
noncomputable def iH : Bd → List D → Rw := fK mr 5
theorem wj {f : Addr} {fd : FuncData} (F : Fun K "tuck" "Bed.tuck" jb f fd) (T : Txt K mg) {C : Addr} (TB : aV K C) (F_Bed_loops_at : MethP P w K mg base C 1 "loops_at" 2 cn) (F_Bed_keep : MethW P w K mg base C 2 "keep" 3 cR) (F_Bed_new_loop : MethW P w K mg base C 1 "new_loop" 4 dZ) : aO P w K mg base (Fly P w) 3 f fd ["self", "deed"] (spW K (dj mg) 2 iH) :=
  lL F lH fun cdv A outer s H E hr =>
      (aE (bt 2 lH.nd (ll (ao (aI (ag 1) aw) (ao (aI (ag 1) aw) ay))))
      (aE (bt 3 lH.nd (fI 0 TB F_Bed_loops_at (hr.mono (by decide)) (ao (ag 2) ay)))
      (aE (bc (aY Ag (cf cL T.b_len cS (ao (ag 3) ay)) (nA T.g_MOST_BORNE) (ba _)) (aG (kx lp rfl T.e_Overfull.choose_spec (kf (ed jR (ed (kA 1 hr) kH))))) bq)
      (aE (mU (kY 0 TB F_Bed_keep (hr.mono (by decide)) (ao (ag 1) (ao (eo (ao (ag 2) ay)) ay))))
      (aE (bt 4 lH.nd (kY 0 TB F_Bed_new_loop (hr.mono (by decide)) (ao (aI (ag 1) aw) (ao bg (ao (cW ay) ay)))))
      (aE (lx 0 TB (kP hr) (aN p7 (ag 3) (cW (ao (ag 4) ay))) (ag 2))
      (aG (aP (ag 4)))))))))
noncomputable abbrev jW : Stmt := inClass (top 13) 1
theorem vk : br ["self", "deed"] ["self", "deed"] (aH jW) := ⟨rfl, rfl, rfl, by decide +kernel, rfl, by decide +kernel, by decide +kernel⟩
noncomputable def fM : DM Fl :=
    (ax (fIf (aA (af (af (aa 1) (fC (.int 0)) gIx) (fC (.str "knit")) gEq)) (aF (bz 0 2 (ae (aa 1) ah) gY)) aM)
    (ax (fIf (aA (af (af (aa 1) (fC (.int 0)) gIx) (fC (.str "tuck")) gEq)) (aF (bz 0 2 (ae (aa 1) ah) iH)) aM)
    (aF (bz 0 2 (ae (aa 1) ah) g0))))
noncomputable def cQ : Bd → List D → Rw := fK fM 2
theorem w5 {f : Addr} {fd : FuncData} (F : Fun K "act" "Bed.act" jW f fd) (T : Txt K mg) {C : Addr} (TB : aV K C) (F_Bed_move : fJ P w K mg base C 3 "move" 2 g0) (F_Bed_knit : fJ P w K mg base C 3 "knit" 2 gY) (F_Bed_tuck : fJ P w K mg base C 3 "tuck" 2 iH) : aO P w K mg base (Fly P w) 4 f fd ["self", "deed"] (spW K (dj mg) 2 cQ) :=
  lL F vk fun cdv A outer s H E hr =>
      (aE (bc (aY (cD hr.units) (aI (ag 1) aw) bg (ba _)) (aG (aP (oW 0 TB F_Bed_knit nB (hr.mono (by decide)) (ao (ag 1) ay)))) bq)
      (aE (bc (aY (cD hr.units) (aI (ag 1) aw) bg (ba _)) (aG (aP (oW 0 TB F_Bed_tuck nB (hr.mono (by decide)) (ao (ag 1) ay)))) bq)
      (aG (aP (oW 0 TB F_Bed_move nB (hr.mono (by decide)) (ao (ag 1) ay))))))
noncomputable abbrev jI : Stmt := top 25
theorem pV : br ["e", "own"] ["e"] (aH jI) := ⟨rfl, rfl, rfl, by decide +kernel, rfl, by decide +kernel, by decide +kernel⟩
noncomputable def uS : DM Fl :=
    (ax (aL 1 (bW (fUn (aa 0) (cG nK)) (bW (fUn (aa 0) (cG pz)) (fUn (aa 0) (cG sg)))))
    (aF (bW (aa 1) (cI (fUn (aa 0) (cG ou))))))
noncomputable def gp : List D → Ro := bV uS 2
theorem xA {f : Addr} {fd : FuncData} (F : Fun K "_law_own" "_law_own" jI f fd) (T : Txt K mg) {C : Addr} (TB : aV K C)  : kG P w K mg base CX0 1 f fd ["e"] (spP K (fun _ => .none) 1 gp) :=
  fnH F pV fun cdv A outer s H E hr =>
      (aE (bt 1 pV.nd (fO (fF (v := .ref T.h_BedFault.choose) T.h_BedFault.choose_spec.2.2 (fun _ z => z) (ez rfl T.h_BedFault.choose_spec.1 rfl) T.b_isinstance (ag 0)) (fO (fF (v := .ref T.h_LoopError.choose) T.h_LoopError.choose_spec.2.2 (fun _ z => z) (ez rfl T.h_LoopError.choose_spec.1 rfl) T.b_isinstance (ag 0)) (jk (fF (v := .ty "ValueError") T.h_ValueError (fun _ z => z) (pN (v := .ty "ValueError") rfl T.b_ValueError yQ rfl) T.b_isinstance (ag 0))))))
      (aG (aP (fO (ag 1) (jk (gF (fF (v := .ref T.h_NothingDone.choose) T.h_NothingDone.choose_spec.2.2 (fun _ z => z) (ez rfl T.h_NothingDone.choose_spec.1 rfl) T.b_isinstance (ag 0))))))))
noncomputable abbrev jH : Stmt := top 26
theorem m5 : br ["bed", "deed", "e"] ["bed", "deed"] (aH jH) := ⟨rfl, rfl, rfl, by decide +kernel, rfl, by decide +kernel, by decide +kernel⟩
noncomputable def nJ : DM Fl :=
    (jq (jm (.str "done") (fS 0 2 (ae (aa 1) ah) cQ)) (fun c => match gN c with | some true => fun δ => gP 2 ((aF (bu (ae (fC (.str "far")) (ae (bW (aR 1 (ae (aa 2) ah) gp) (bW (cI (fUn (aa 2) (cG gR))) (cI (fUn (aa 2) (cG gQ))))) ah)))) (δ.set 2 (.sh (.exc c)))) | some false => (fun c => match gR c with | some true => fun δ => gP 2 ((aF (bu (ae (fC (.str "empty")) (ae (bW (aR 1 (ae (aa 2) ah) gp) (bW (cI (fUn (aa 2) (cG gN))) (cI (fUn (aa 2) (cG gQ))))) ah)))) (δ.set 2 (.sh (.exc c)))) | some false => (fun c => match gQ c with | some true => fun δ => gP 2 ((aF (bu (ae (fC (.str "full")) (ae (bW (aR 1 (ae (aa 2) ah) gp) (bW (cI (fUn (aa 2) (cG gR))) (cI (fUn (aa 2) (cG gN))))) ah)))) (δ.set 2 (.sh (.exc c)))) | some false => (fun _ _ => .un) c | none => fun _ => .un) c | none => fun _ => .un) c | none => fun _ => .un))
noncomputable def dW : Bd → List D → Rw := cY nJ 3
theorem wC {f : Addr} {fd : FuncData} (F : Fun K "_law_act" "_law_act" jH f fd) (T : Txt K mg) {C : Addr} (TB : aV K C) (F_Bed_act : fJ P w K mg base C 4 "act" 2 cQ) (F_own : nC P w K mg base 1 "_law_own" 1 gp) : aO P w K mg base CX0 5 f fd ["bed", "deed"] (spW K (fun _ => .none) 2 dW) :=
  fnW F m5 fun cdv A outer s H E hr =>
      (aG (AA (ye (vU 0 TB F_Bed_act (hr.mono (by decide)) (ao (ag 1) ay))) (nW 2 T.h_TooFar.choose_spec.2.1 T.h_TooFar.choose_spec.1 m5.nd (fun _ => (aG (aP (cW (ao bg (ao (fO (oG F_own (hr.mark.mono (by decide)) (ao (ag 2) ay)) (fO (gF (fF (v := .ref T.h_Empty.choose) T.h_Empty.choose_spec.2.2 (fun _ z => z) (ez rfl T.h_Empty.choose_spec.1 rfl) T.b_isinstance (ag 2))) (jk (gF (fF (v := .ref T.h_Overfull.choose) T.h_Overfull.choose_spec.2.2 (fun _ z => z) (ez rfl T.h_Overfull.choose_spec.1 rfl) T.b_isinstance (ag 2)))))) ay)))))) (nW 2 T.h_Empty.choose_spec.2.1 T.h_Empty.choose_spec.1 m5.nd (fun _ => (aG (aP (cW (ao bg (ao (fO (oG F_own (hr.mark.mono (by decide)) (ao (ag 2) ay)) (fO (gF (fF (v := .ref T.h_TooFar.choose) T.h_TooFar.choose_spec.2.2 (fun _ z => z) (ez rfl T.h_TooFar.choose_spec.1 rfl) T.b_isinstance (ag 2))) (jk (gF (fF (v := .ref T.h_Overfull.choose) T.h_Overfull.choose_spec.2.2 (fun _ z => z) (ez rfl T.h_Overfull.choose_spec.1 rfl) T.b_isinstance (ag 2)))))) ay)))))) (nW 2 T.h_Overfull.choose_spec.2.1 T.h_Overfull.choose_spec.1 m5.nd (fun _ => (aG (aP (cW (ao bg (ao (fO (oG F_own (hr.mark.mono (by decide)) (ao (ag 2) ay)) (fO (gF (fF (v := .ref T.h_Empty.choose) T.h_Empty.choose_spec.2.2 (fun _ z => z) (ez rfl T.h_Empty.choose_spec.1 rfl) T.b_isinstance (ag 2))) (jk (gF (fF (v := .ref T.h_TooFar.choose) T.h_TooFar.choose_spec.2.2 (fun _ z => z) (ez rfl T.h_TooFar.choose_spec.1 rfl) T.b_isinstance (ag 2)))))) ay)))))) vt)))))
noncomputable abbrev iZ : Stmt := top 23
theorem Bg : br ["row", "at"] ["row", "at"] (aH iZ) := ⟨rfl, rfl, rfl, by decide +kernel, rfl, by decide +kernel, by decide +kernel⟩
noncomputable def sk : DM Fl :=
    (ax (fIf (aA (af (aa 0) (fC (.str "f")) gEq)) (aF (aa 1)) aM)
    (aF (af (fC (.int 16)) (aa 1) bj)))
noncomputable def gG : List D → Ro := bV sk 2
theorem AG {f : Addr} {fd : FuncData} (F : Fun K "_law_at" "_law_at" iZ f fd) (T : Txt K mg) {C : Addr} (TB : aV K C)  : aO P w K mg base CX0 1 f fd ["row", "at"] (spP K (fun _ => .none) 2 gG) :=
  fnP F Bg fun cdv A outer s H E hr =>
      (aE (bc (aY (cD hr.units) (ag 0) bg (ba _)) (aG (aP (ag 1))) bq)
      (aG (aP (aN da aw (ag 1)))))
noncomputable abbrev jh : Stmt := top 24
theorem j4 : br ["hooks", "cloth", "deed", "here", "there", "way"] ["hooks", "cloth", "deed"] (aH jh) := ⟨rfl, rfl, rfl, by decide +kernel, rfl, by decide +kernel, by decide +kernel⟩
noncomputable def nk : DM Fl :=
    (ax (aL 3 (aR 2 (ae (af (aa 2) (fC (.int 1)) gIx) (ae (af (aa 2) (fC (.int 2)) gIx) ah)) gG))
    (fIf (aA (af (af (aa 2) (fC (.int 0)) gIx) (fC (.str "move")) gEq)) (ax (aL 4 (af (fC (.int 16)) (af (aa 2) (fC (.int 3)) gIx) bj))
    (ax (fIf (aA (af (af (aa 2) (fC (.int 1)) gIx) (fC (.str "b")) gEq)) (aL 4 (af (aa 2) (fC (.int 3)) gIx)) aM)
    (ax (fP 0 (af (af (aa 0) (aa 4) gIx) (af (aa 0) (aa 3) gIx) bj) (aa 4))
    (fP 0 (bF ah) (aa 3))))) (fIf (aA (af (af (aa 2) (fC (.int 0)) gIx) (fC (.str "tuck")) gEq)) (ax (fP 0 (af (af (aa 0) (aa 3) gIx) (bF (ae (fCB (ae (aa 1) ah) aZ) ah)) bj) (aa 3))
    (dU 1 (bu (ae (af (aa 2) (fC (.int 3)) gIx) (ae (fC (.str "t")) (ae (bu ah) ah)))))) (ax (aL 5 (fC (.str "p")))
    (ax (fIf (aA (af (af (aa 2) (fC (.int 1)) gIx) (fC (.str "f")) gEq)) (aL 5 (fC (.str "k"))) aM)
    (ax (dU 1 (bu (ae (af (aa 2) (fC (.int 3)) gIx) (ae (aa 5) (ae (fCB (ae (af (aa 0) (aa 3) gIx) ah) jJ) ah)))))
    (fP 0 (bF (ae (af (fCB (ae (aa 1) ah) aZ) (fC (.int 1)) cV) ah)) (aa 3))))))))
noncomputable def eW : List D → List (List D) → Rn := runN nk 6 [0, 1]
theorem zU {f : Addr} {fd : FuncData} (F : Fun K "_law_do" "_law_do" jh f fd) (T : Txt K mg) {C : Addr} (TB : aV K C) (F_at : cc P w K mg base 1 "_law_at" 2 gG) : aO P w K mg base CX0 2 f fd ["hooks", "cloth", "deed"] (spN K 3 [0, 1] eW) :=
  fnN [0, 1] F j4 fun cdv A outer s H E hr =>
      (aE (bt 3 j4.nd (cx F_at (hr.mono (by decide)) (ao (aI (ag 2) aw) (ao (aI (ag 2) aw) ay))))
      (aG (bc (aY (cD hr.units) (aI (ag 2) aw) bg (ba _)) (aE (bt 4 j4.nd (aN da aw (aI (ag 2) aw)))
      (aE (bc (aY (cD hr.units) (aI (ag 2) aw) bg (ba _)) (aG (bt 4 j4.nd (aI (ag 2) aw))) bq)
      (aE (nc 0 (aN da (aI (ag 0) (ag 4)) (aI (ag 0) (ag 3))) (ag 4))
      (aG (nc 0 (eo ay) (ag 3)))))) (aG (bc (aY (cD hr.units) (aI (ag 2) aw) bg (ba _)) (aE (nc 0 (aN da (aI (ag 0) (ag 3)) (eo (ao (cf cL T.b_len cS (ao (ag 1) ay)) ay))) (ag 3))
      (aG (mR 1 (cW (ao (aI (ag 2) aw) (ao bg (ao (cW ay) ay))))))) (aE (bt 5 j4.nd bg)
      (aE (bc (aY (cD hr.units) (aI (ag 2) aw) bg (ba _)) (aG (bt 5 j4.nd bg)) bq)
      (aE (mR 1 (cW (ao (aI (ag 2) aw) (ao (ag 5) (ao (oE AU T.b_tuple pe (ao (aI (ag 0) (ag 3)) ay)) ay)))))
      (aG (nc 0 (eo (ao (aN ig (cf cL T.b_len cS (ao (ag 1) ay)) aw) ay)) (ag 3)))))))))))
noncomputable abbrev jg : Stmt := top 15
theorem v5 : br ["found"] ["found"] (aH jg) := ⟨rfl, rfl, rfl, by decide +kernel, rfl, by decide +kernel, by decide +kernel⟩
noncomputable def rb : DM Fl :=
    (aF (bW (fUn (aa 0) (gIs "int")) (cI (fUn (aa 0) (gIs "bool")))))
noncomputable def dr : List D → Ro := bV rb 1
theorem wm {f : Addr} {fd : FuncData} (F : Fun K "_law_whole" "_law_whole" jg f fd) (T : Txt K mg) {C : Addr} (TB : aV K C)  : aO P w K mg base CX0 1 f fd ["found"] (spP K (fun _ => .none) 1 dr) :=
  fnP F v5 fun cdv A outer s H E hr =>
      (aG (aP (fO (gM T.b_isinstance T.b_int AV (ag 0)) (jk (gF (gM T.b_isinstance T.b_bool uN (ag 0)))))))
noncomputable abbrev jw : Stmt := top 29
theorem iE : br ["bed", "deeds", "hooks", "cloth", "let", "deed", "word", "found"] ["bed", "deeds"] (aH jw) := ⟨rfl, rfl, rfl, by decide +kernel, rfl, by decide +kernel, by decide +kernel⟩
noncomputable def sD : DM Fl :=
    (ax (fz 2 (fLC (dQ (ae (fC (.int 32)) ah)) (bw 0) (.ret true) (bF ah) [none]))
    (ax (fz 3 (bF ah))
    (ax (fz 4 (bF ah))
    (ax (fE (fIt (aa 1) jE) (bw 5) (ax (aL 6 (cJ 2 [0] (ae (aa 2) (ae (aa 5) ah)) eZ))
    (ax (aL 7 (bz 0 2 (ae (aa 5) ah) dW))
    (fIf (aA (af (aa 6) (fC .non) ft)) (ax (fIf (bA (aA (af (af (aa 7) (fC (.int 0)) gIx) (fC (.str "done")) gNe)) (cO (aA (af (af (aa 5) (fC (.int 0)) gIx) (fC (.str "move")) gEq)) (aA (af (af (aa 7) (fC (.int 1)) gIx) (fC .non) j9)))) (aF (fC .non)) aM)
    (ax (fIf (cO (aA (af (af (aa 5) (fC (.int 0)) gIx) (fC (.str "move")) gNe)) (bA (bO (aA (aR 1 (ae (af (aa 7) (fC (.int 1)) gIx) ah) dr))) (aA (af (af (aa 7) (fC (.int 1)) gIx) (fCB (ae (aa 3) ah) aZ) gNe)))) (aF (fC .non)) aM)
    (ax (gx (cJ 3 [0, 1] (ae (aa 2) (ae (aa 3) (ae (aa 5) ah))) eW))
    (dU 4 (aa 5))))) (fIf (bA (aA (af (af (aa 7) (fC (.int 0)) gIx) (aa 6) gNe)) (aA (af (af (aa 7) (fC (.int 1)) gIx) (fC (.bl true)) lR))) (aF (fC .non)) aM)))))
    (fun δ => (fun δ => (fun δ => (aF (bu (ae (aa 2) (ae (aa 3) (ae (aa 4) ah))))) (frz 3 δ)) (frz 2 δ)) (frz 4 δ))))))
noncomputable def fj : Bd → List D → Rw := cY sD 8
theorem zx {f : Addr} {fd : FuncData} (F : Fun K "_law_played" "_law_played" jw f fd) (T : Txt K mg) {C : Addr} (TB : aV K C) (F_word : iq P w K mg base 2 "_law_word" 2 [0] eZ) (F_act : lg P w K mg base 5 "_law_act" 2 dW) (F_do : iq P w K mg base 2 "_law_do" 3 [0, 1] eW) (F_whole : cc P w K mg base 1 "_law_whole" 1 dr) : aO P w K mg base CX0 6 f fd ["bed", "deeds"] (spW K (fun _ => .none) 2 fj) :=
  fnW F iE fun cdv A outer s H E hr =>
      (aE (zh 2 iE.nd (N := ["k"]) (sel := [none]) ⟨rfl, rfl, rfl, rfl, rfl, rfl⟩ rfl (jQ T.b_range (ao aw ay)) (fun _ => fQ vH) (fun _ => mI) (fun _ => (eo ay)))
      (aE (oI 3 iE.nd (eo ay))
      (aE (oI 4 iE.nd (eo ay))
      (aE (kc PassesOwn.never rfl (oU (ag 1)) (fQ iE.nd) (aE (bt 6 iE.nd (mF F_word (hr.mono (by decide)) (ao (ag 2) (ao (ag 5) ay))))
      (aE (bt 7 iE.nd (nY 0 F_act (hr.mono (by decide)) (ao (ag 5) ay)))
      (aG (bc (aY oR (ag 6) fq (ba _)) (aE (bc (de (dH (aY (fH hr.units) (aI (ag 7) aw) bg (ba _)) (d5 (de (nj (aY (cD hr.units) (aI (ag 5) aw) bg (ba _)) (lS (aY AY (aI (ag 7) aw) fq (ba _)))))))) (aG (aP fq)) bq)
      (aE (bc (de (nj (aY (fH hr.units) (aI (ag 5) aw) bg (ba _)) (lS (de (dH (dn (dI (cx F_whole (hr.mono (by decide)) (ao (aI (ag 7) aw) ay)))) (d5 (aY (fH hr.units) (aI (ag 7) aw) (cf cL T.b_len cS (ao (ag 3) ay)) (ba _)))))))) (aG (aP fq)) bq)
      (aE (mU (mF F_do (hr.mono (by decide)) (ao (ag 2) (ao (ag 3) (ao (ag 5) ay)))))
      (aG (mR 4 (ag 5)))))) (aG (bc (de (dH (aY (fH hr.units) (aI (ag 7) aw) (ag 6) (ba _)) (d5 (aY AR (aI (ag 7) aw) dq (ba _))))) (aG (aP fq)) bq)))))))
      (aG (kb 4 (kb 2 (kb 3 (aP (cW (ao (ag 2) (ao (ag 3) (ao (ag 4) ay)))))))))))))
noncomputable abbrev ja : Stmt := top 18
theorem Ai : br ["found"] ["found"] (aH ja) := ⟨rfl, rfl, rfl, by decide +kernel, rfl, by decide +kernel, by decide +kernel⟩
noncomputable def qr : DM Fl :=
    (ax (fIf (bA (bO (aA (fUn (aa 0) (gIs "tuple")))) (aA (af (fCB (ae (aa 0) ah) aZ) (fC (.int 3)) gNe))) (aF (fC (.bl false))) aM)
    (ax (fIf (bA (bO (aA (fUn (af (aa 0) (fC (.int 0)) gIx) (gIs "str")))) (bA (bO (aA (fUn (af (aa 0) (fC (.int 1)) gIx) (gIs "str")))) (bO (aA (fUn (af (aa 0) (fC (.int 2)) gIx) (gIs "tuple")))))) (aF (fC (.bl false))) aM)
    (aF (fCB (ae (fLC (fIt (af (aa 0) (fC (.int 2)) gIx) mX) (bw 0) (.ret true) (aR 1 (ae (aa 0) ah) dr) [none]) ah) lY))))
noncomputable def iF : List D → Ro := bV qr 1
theorem yN {f : Addr} {fd : FuncData} (F : Fun K "_law_loop" "_law_loop" ja f fd) (T : Txt K mg) {C : Addr} (TB : aV K C) (F_whole : cc P w K mg base 1 "_law_whole" 1 dr) : aO P w K mg base CX0 2 f fd ["found"] (spP K (fun _ => .none) 1 iF) :=
  fnP F Ai fun cdv A outer s H E hr =>
      (aE (bc (de (dH (dn (dI (gM T.b_isinstance T.b_tuple pe (ag 0)))) (d5 (aY (fH hr.units) (cf cL T.b_len cS (ao (ag 0) ay)) aw (ba _))))) (aG (aP dq)) bq)
      (aE (bc (de (dH (dn (dI (gM T.b_isinstance T.b_str pR (aI (ag 0) aw)))) (dH (dn (dI (gM T.b_isinstance T.b_str pR (aI (ag 0) aw)))) (d5 (dn (dI (gM T.b_isinstance T.b_tuple pe (aI (ag 0) aw)))))))) (aG (aP dq)) bq)
      (aG (aP (cf (xS rfl) T.b_all uz (ao (mj (N := ["held"]) (sel := [none]) ⟨rfl, rfl, rfl, rfl, rfl, rfl⟩ rfl (yI (aI (ag 0) aw)) (fun _ => fQ uJ) (fun _ => mI) (fun _ => (cx F_whole (hr.mono (by decide)) (ao (ag 0) ay)))) ay))))))
noncomputable abbrev jK : Stmt := top 19
theorem sR : br ["found", "due", "k"] ["found", "due"] (aH jK) := ⟨rfl, rfl, rfl, by decide +kernel, rfl, by decide +kernel, by decide +kernel⟩
noncomputable def rU : DM Fl :=
    (ax (fIf (bA (bO (aA (fUn (aa 0) (gIs "list")))) (aA (af (fCB (ae (aa 0) ah) aZ) (fCB (ae (aa 1) ah) aZ) gNe))) (aF (fC (.bl false))) aM)
    (ax (fE (dQ (ae (fCB (ae (aa 1) ah) aZ) ah)) (bw 2) (fIf (bA (bO (aA (aR 1 (ae (af (aa 0) (aa 2) gIx) ah) iF))) (aA (af (af (aa 0) (aa 2) gIx) (af (aa 1) (aa 2) gIx) gNe))) (aF (fC (.bl false))) aM))
    (aF (fC (.bl true)))))
noncomputable def jG : List D → Ro := bV rU 3
theorem BB {f : Addr} {fd : FuncData} (F : Fun K "_law_alike_cloth" "_law_alike_cloth" jK f fd) (T : Txt K mg) {C : Addr} (TB : aV K C) (F_loop : cc P w K mg base 2 "_law_loop" 1 iF) : aO P w K mg base CX0 3 f fd ["found", "due"] (spP K (fun _ => .none) 2 jG) :=
  fnP F sR fun cdv A outer s H E hr =>
      (aE (bc (de (dH (dn (dI (gM T.b_isinstance T.b_list lF (ag 0)))) (d5 (aY (fH hr.units) (cf cL T.b_len cS (ao (ag 0) ay)) (cf cL T.b_len cS (ao (ag 1) ay)) (ba _))))) (aG (aP dq)) bq)
      (aE (kc PassesOwn.never rfl (jQ T.b_range (ao (cf cL T.b_len cS (ao (ag 1) ay)) ay)) (fQ sR.nd) (aG (bc (de (dH (dn (dI (cx F_loop (hr.mono (by decide)) (ao (aI (ag 0) (ag 2)) ay)))) (d5 (aY (fH hr.units) (aI (ag 0) (ag 2)) (aI (ag 1) (ag 2)) (ba _))))) (aG (aP dq)) bq)))
      (aG (aP dq))))
noncomputable abbrev jP : Stmt := inClass (top 13) 5
theorem vy : br ["self"] ["self"] (aH jP) := ⟨rfl, rfl, rfl, by decide +kernel, rfl, by decide +kernel, by decide +kernel⟩
noncomputable def tF : DM Fl :=
    (aF (fLC (fIt (fR 0 2) jE) (bw 0) (.ret true) (af (aa 0) (fC (.int 0)) gIx) [none]))
noncomputable def dO : List D → Ro := bV tF 1
theorem uW {f : Addr} {fd : FuncData} (F : Fun K "done" "Bed.done" jP f fd) (T : Txt K mg) {C : Addr} (TB : aV K C)  : aO P w K mg base CX0 1 f fd ["self"] (spP K (fun _ => .none) 1 dO) :=
  fnP F vy fun cdv A outer s H E hr =>
      (aG (aP (mj (N := ["step"]) (sel := [none]) ⟨rfl, rfl, rfl, rfl, rfl, rfl⟩ rfl (oU (zl 0 TB)) (fun _ => fQ xY) (fun _ => mI) (fun _ => (aI (ag 0) aw)))))
noncomputable abbrev jV : Stmt := top 20
theorem sV : br ["found", "due", "k"] ["found", "due"] (aH jV) := ⟨rfl, rfl, rfl, by decide +kernel, rfl, by decide +kernel, by decide +kernel⟩
noncomputable def qL : DM Fl :=
    (ax (fIf (bA (bO (aA (fUn (aa 0) (gIs "list")))) (aA (af (fCB (ae (aa 0) ah) aZ) (fCB (ae (aa 1) ah) aZ) gNe))) (aF (fC (.bl false))) aM)
    (ax (fE (dQ (ae (fCB (ae (aa 1) ah) aZ) ah)) (bw 2) (fIf (bA (bO (aA (aR 1 (ae (af (aa 0) (aa 2) gIx) ah) dr))) (aA (af (af (aa 0) (aa 2) gIx) (af (aa 1) (aa 2) gIx) gNe))) (aF (fC (.bl false))) aM))
    (aF (fC (.bl true)))))
noncomputable def gb : List D → Ro := bV qL 3
theorem Ac {f : Addr} {fd : FuncData} (F : Fun K "_law_alike_hook" "_law_alike_hook" jV f fd) (T : Txt K mg) {C : Addr} (TB : aV K C) (F_whole : cc P w K mg base 1 "_law_whole" 1 dr) : aO P w K mg base CX0 2 f fd ["found", "due"] (spP K (fun _ => .none) 2 gb) :=
  fnP F sV fun cdv A outer s H E hr =>
      (aE (bc (de (dH (dn (dI (gM T.b_isinstance T.b_list lF (ag 0)))) (d5 (aY (fH hr.units) (cf cL T.b_len cS (ao (ag 0) ay)) (cf cL T.b_len cS (ao (ag 1) ay)) (ba _))))) (aG (aP dq)) bq)
      (aE (kc PassesOwn.never rfl (jQ T.b_range (ao (cf cL T.b_len cS (ao (ag 1) ay)) ay)) (fQ sV.nd) (aG (bc (de (dH (dn (dI (cx F_whole (hr.mono (by decide)) (ao (aI (ag 0) (ag 2)) ay)))) (d5 (aY (fH hr.units) (aI (ag 0) (ag 2)) (aI (ag 1) (ag 2)) (ba _))))) (aG (aP dq)) bq)))
      (aG (aP dq))))
noncomputable abbrev iU : Stmt := inClass (top 13) 4
theorem yp : br ["self"] ["self"] (aH iU) := ⟨rfl, rfl, rfl, by decide +kernel, rfl, by decide +kernel, by decide +kernel⟩
noncomputable def qO : DM Fl :=
    (aF (fCB (ae (fR 0 1) ah) lM))
noncomputable def dG : List D → Ro := bV qO 1
theorem w8 {f : Addr} {fd : FuncData} (F : Fun K "cloth" "Bed.cloth" iU f fd) (T : Txt K mg) {C : Addr} (TB : aV K C)  : aO P w K mg base CX0 1 f fd ["self"] (spP K (fun _ => .none) 1 dG) :=
  fnP F yp fun cdv A outer s H E hr =>
      (aG (aP (oE tV T.b_list lF (ao (pO 0 TB) ay))))
noncomputable abbrev jL : Stmt := inClass (top 13) 3
theorem AO : br ["self", "row", "hook"] ["self", "row", "hook"] (aH jL) := ⟨rfl, rfl, rfl, by decide +kernel, rfl, by decide +kernel, by decide +kernel⟩
noncomputable def sx : DM Fl :=
    (aF (fCB (ae (aX 0 2 (ae (gn (ae (aa 1) (ae (aa 2) ah))) ah) cn) ah) lM))
noncomputable def b7 : List D → Ro := bV sx 3
theorem wk {f : Addr} {fd : FuncData} (F : Fun K "hook" "Bed.hook" jL f fd) (T : Txt K mg) {C : Addr} (TB : aV K C) (F_Bed_loops_at : MethP P w K mg base C 1 "loops_at" 2 cn) : aO P w K mg base CX0 2 f fd ["self", "row", "hook"] (spP K (fun _ => .none) 3 b7) :=
  fnP F AO fun cdv A outer s H E hr =>
      (aG (aP (oE tV T.b_list lF (ao (fI 0 TB F_Bed_loops_at (hr.mono (by decide)) (ao (ll (ao (ag 1) (ao (ag 2) ay))) ay)) ay))))
noncomputable abbrev jD : Stmt := top 27
theorem qK : br ["bed", "hooks", "cloth", "deeds", "at"] ["bed", "hooks", "cloth", "deeds"] (aH jD) := ⟨rfl, rfl, rfl, by decide +kernel, rfl, by decide +kernel, by decide +kernel⟩
noncomputable def rm : DM Fl :=
    (ax (fIf (bA (bO (aA (aR 2 (ae (aX 0 1 ah dG) (ae (aa 2) ah)) jG))) (aA (af (aX 0 1 ah dO) (aa 3) gNe))) (aF (fC (.bl false))) aM)
    (ax (fE (dQ (ae (fC (.int 16)) ah)) (bw 4) (ax (fIf (bO (aA (aR 2 (ae (aX 0 3 (ae (fC (.str "f")) (ae (aa 4) ah)) b7) (ae (af (aa 1) (aa 4) gIx) ah)) gb))) (aF (fC (.bl false))) aM)
    (fIf (bO (aA (aR 2 (ae (aX 0 3 (ae (fC (.str "b")) (ae (aa 4) ah)) b7) (ae (af (aa 1) (af (fC (.int 16)) (aa 4) bj) gIx) ah)) gb))) (aF (fC (.bl false))) aM)))
    (aF (fC (.bl true)))))
noncomputable def eY : List D → Ro := bV rm 5
theorem vR {f : Addr} {fd : FuncData} (F : Fun K "_law_stands" "_law_stands" jD f fd) (T : Txt K mg) {C : Addr} (TB : aV K C) (F_alike_cloth : cc P w K mg base 3 "_law_alike_cloth" 2 jG) (F_Bed_done : MethP P w K mg base C 1 "done" 1 dO) (F_alike_hook : cc P w K mg base 2 "_law_alike_hook" 2 gb) (F_Bed_cloth : MethP P w K mg base C 1 "cloth" 1 dG) (F_Bed_hook : MethP P w K mg base C 2 "hook" 3 b7) : aO P w K mg base CX0 4 f fd ["bed", "hooks", "cloth", "deeds"] (spP K (fun _ => .none) 4 eY) :=
  fnP F qK fun cdv A outer s H E hr =>
      (aE (bc (de (dH (dn (dI (cx F_alike_cloth (hr.mono (by decide)) (ao (lQ 0 TB F_Bed_cloth (hr.mono (by decide))) (ao (ag 2) ay))))) (d5 (aY (fH hr.units) (lQ 0 TB F_Bed_done (hr.mono (by decide))) (ag 3) (ba _))))) (aG (aP dq)) bq)
      (aE (kc PassesOwn.never rfl (jQ T.b_range (ao aw ay)) (fQ qK.nd) (aE (bc (dn (dI (cx F_alike_hook (hr.mono (by decide)) (ao (fI 0 TB F_Bed_hook (hr.mono (by decide)) (ao bg (ao (ag 4) ay))) (ao (aI (ag 1) (ag 4)) ay))))) (aG (aP dq)) bq)
      (aG (bc (dn (dI (cx F_alike_hook (hr.mono (by decide)) (ao (fI 0 TB F_Bed_hook (hr.mono (by decide)) (ao bg (ao (ag 4) ay))) (ao (aI (ag 1) (aN da aw (ag 4))) ay))))) (aG (aP dq)) bq))))
      (aG (aP dq))))
noncomputable abbrev jB : Stmt := top 16
theorem xb : br ["script", "k"] ["script", "k"] (aH jB) := ⟨rfl, rfl, rfl, by decide +kernel, rfl, by decide +kernel, by decide +kernel⟩
noncomputable def tq : DM Fl :=
    (ax (fIf (aA (af (aa 1) (fCB (ae (aa 0) ah) aZ) (bU lt))) (aF (af (aa 0) (aa 1) gIx)) aM)
    (aF (fC (.int 0))))
noncomputable def dC : List D → Ro := bV tq 2
theorem v3 {f : Addr} {fd : FuncData} (F : Fun K "_law_cell_at" "_law_cell_at" jB f fd) (T : Txt K mg) {C : Addr} (TB : aV K C)  : aO P w K mg base CX0 1 f fd ["script", "k"] (spP K (fun _ => .none) 2 dC) :=
  fnP F xb fun cdv A outer s H E hr =>
      (aE (bc (aY ot (ag 1) (cf cL T.b_len cS (ao (ag 0) ay)) (ba _)) (aG (aP (aI (ag 0) (ag 1)))) bq)
      (aG (aP aw)))
noncomputable abbrev jO : Stmt := top 17
theorem pj : br ["cell", "k", "seed"] ["cell", "k"] (aH jO) := ⟨rfl, rfl, rfl, by decide +kernel, rfl, by decide +kernel, by decide +kernel⟩
noncomputable def qy : DM Fl :=
    (ax (aL 2 (af (af (aa 0) (af (fC (.int 7919)) (af (aa 1) (fC (.int 3)) bj) eM) bj) (fC (.int 2147483647)) bD))
    (ax (aL 2 (af (af (af (af (aa 2) (aa 2) eM) (af (fC (.int 104729)) (aa 1) eM) bj) (fC (.int 5)) bj) (fC (.int 2147483629)) bD))
    (aF (af (af (aa 2) (aa 2) eM) (fC (.int 2147483587)) bD))))
noncomputable def eF : List D → Ro := bV qy 3
theorem Bv {f : Addr} {fd : FuncData} (F : Fun K "_law_mix" "_law_mix" jO f fd) (T : Txt K mg) {C : Addr} (TB : aV K C)  : aO P w K mg base CX0 1 f fd ["cell", "k"] (spP K (fun _ => .none) 2 eF) :=
  fnP F pj fun cdv A outer s H E hr =>
      (aE (bt 2 pj.nd (aN cT (aN da (ag 0) (aN kN aw (aN da (ag 1) aw))) aw))
      (aE (bt 2 pj.nd (aN cT (aN da (aN da (aN kN (ag 2) (ag 2)) (aN kN aw (ag 1))) aw) aw))
      (aG (aP (aN cT (aN kN (ag 2) (ag 2)) aw)))))
noncomputable abbrev iR : Stmt := top 28
theorem jo : br ["cell", "spread", "row", "at", "way", "to"] ["cell", "spread"] (aH iR) := ⟨rfl, rfl, rfl, by decide +kernel, rfl, by decide +kernel, by decide +kernel⟩
noncomputable def rf : DM Fl :=
    (ax (aL 2 (af (fC (.str "fb")) (af (af (aR 2 (ae (aa 0) (ae (fC (.int 1)) ah)) eF) (fC (.int 7)) ej) (fC (.int 2)) bD) gIx))
    (ax (aL 3 (af (af (af (aa 0) (fC (.int 16)) bD) (af (af (aR 2 (ae (aa 0) (ae (fC (.int 2)) ah)) eF) (fC (.int 7)) ej) (aa 1) bD) bj) (fC (.int 16)) bD))
    (ax (aL 4 (af (af (aR 2 (ae (aa 0) (ae (fC (.int 3)) ah)) eF) (fC (.int 7)) ej) (fC (.int 10)) bD))
    (ax (fIf (aA (af (aa 4) (fC (.int 3)) (bU lt))) (aF (bu (ae (fC (.str "knit")) (ae (aa 2) (ae (aa 3) (ae (af (fC (.str "abcdef")) (af (af (aR 2 (ae (aa 0) (ae (fC (.int 4)) ah)) eF) (fC (.int 7)) ej) (fC (.int 6)) bD) gIx) ah)))))) aM)
    (ax (fIf (aA (af (aa 4) (fC (.int 7)) (bU lt))) (aF (bu (ae (fC (.str "tuck")) (ae (aa 2) (ae (aa 3) (ae (af (fC (.str "abcdef")) (af (af (aR 2 (ae (aa 0) (ae (fC (.int 4)) ah)) eF) (fC (.int 7)) ej) (fC (.int 6)) bD) gIx) ah)))))) aM)
    (ax (aL 5 (af (af (aa 3) (af (af (aR 2 (ae (aa 0) (ae (fC (.int 5)) ah)) eF) (fC (.int 7)) ej) (fC (.int 5)) bD) bj) (fC (.int 2)) cV))
    (ax (fIf (aA (af (aa 4) (fC (.int 9)) gEq)) (aL 5 (af (af (aR 2 (ae (aa 0) (ae (fC (.int 6)) ah)) eF) (fC (.int 7)) ej) (fC (.int 16)) bD)) aM)
    (aF (bu (ae (fC (.str "move")) (ae (aa 2) (ae (aa 3) (ae (fCB (ae (fC (.int 0)) (ae (fCB (ae (fC (.int 15)) (ae (aa 5) ah)) mE) ah)) mZ) ah)))))))))))))
noncomputable def ik : List D → Ro := bV rf 6
theorem uX {f : Addr} {fd : FuncData} (F : Fun K "_law_deed" "_law_deed" iR f fd) (T : Txt K mg) {C : Addr} (TB : aV K C) (F_mix : cc P w K mg base 1 "_law_mix" 2 eF) : aO P w K mg base CX0 2 f fd ["cell", "spread"] (spP K (fun _ => .none) 2 ik) :=
  fnP F jo fun cdv A outer s H E hr =>
      (aE (bt 2 jo.nd (aI bg (aN cT (aN gD (cx F_mix (hr.mono (by decide)) (ao (ag 0) (ao aw ay))) aw) aw)))
      (aE (bt 3 jo.nd (aN cT (aN da (aN cT (ag 0) aw) (aN cT (aN gD (cx F_mix (hr.mono (by decide)) (ao (ag 0) (ao aw ay))) aw) (ag 1))) aw))
      (aE (bt 4 jo.nd (aN cT (aN gD (cx F_mix (hr.mono (by decide)) (ao (ag 0) (ao aw ay))) aw) aw))
      (aE (bc (aY ot (ag 4) aw (ba _)) (aG (aP (cW (ao bg (ao (ag 2) (ao (ag 3) (ao (aI bg (aN cT (aN gD (cx F_mix (hr.mono (by decide)) (ao (ag 0) (ao aw ay))) aw) aw)) ay))))))) bq)
      (aE (bc (aY ot (ag 4) aw (ba _)) (aG (aP (cW (ao bg (ao (ag 2) (ao (ag 3) (ao (aI bg (aN cT (aN gD (cx F_mix (hr.mono (by decide)) (ao (ag 0) (ao aw ay))) aw) aw)) ay))))))) bq)
      (aE (bt 5 jo.nd (aN ig (aN da (ag 3) (aN cT (aN gD (cx F_mix (hr.mono (by decide)) (ao (ag 0) (ao aw ay))) aw) aw)) aw))
      (aE (bc (aY (cD hr.units) (ag 4) aw (ba _)) (aG (bt 5 jo.nd (aN cT (aN gD (cx F_mix (hr.mono (by decide)) (ao (ag 0) (ao aw ay))) aw) aw))) bq)
      (aG (aP (cW (ao bg (ao (ag 2) (ao (ag 3) (ao (cf (AK rfl) T.b_max xE (ao aw (ao (cf (vZ rfl) T.b_min vF (ao aw (ao (ag 5) ay))) ay))) ay))))))))))))))
noncomputable abbrev fU : Stmt := top 30
theorem dM : br ["script", "spread", "near", "deeds", "k", "cell", "bed", "second", "due", "other", "lists", "one"] ["script"] (aH fU) := ⟨rfl, rfl, rfl, by decide +kernel, rfl, by decide +kernel, by decide +kernel⟩
noncomputable def sm : DM Fl :=
    (ax (aL 1 (fC (.int 3)))
    (ax (fIf (aA (af (af (af (aR 2 (ae (aa 0) (ae (fC (.int 0)) ah)) dC) (fC (.int 41)) ej) (fC (.int 3)) bD) (fC (.int 1)) gEq)) (aL 1 (fC (.int 16))) aM)
    (ax (aL 2 (af (aR 2 (ae (aa 0) (ae (fC (.int 1)) ah)) dC) (fC (.int 16)) bD))
    (ax (fz 3 (bF ah))
    (ax (fE (dQ (ae (af (aR 2 (ae (aa 0) (ae (fC (.int 0)) ah)) dC) (fC (.int 41)) bD) ah)) (bw 4) (ax (aL 5 (af (af (aR 2 (ae (aa 0) (ae (af (fC (.int 2)) (aa 4) bj) ah)) dC) (fC (.int 1000003)) bD) (af (fC (.int 5003)) (aa 4) eM) bj))
    (dU 3 (aR 2 (ae (af (af (aa 5) (af (aa 5) (fC (.int 16)) bD) cV) (aa 2) bj) (ae (aa 1) ah)) ik))))
    (ax (kI 6)
    (ax (kI 7)
    (ax (fun δ => (aL 8 (bz 6 2 (ae (aa 3) ah) fj)) (frz 3 δ))
    (ax (fun δ => (aL 9 (bz 7 2 (ae (fLC (dQ (ae (fCB (ae (aa 3) ah) aZ) ah)) (bw 0) (aA (af (af (aa 0) (fC (.int 2)) bD) (fC (.int 1)) gEq)) (af (aa 1) (aa 0) gIx) [none, some 3]) ah) fj)) (frz 3 δ))
    (ax (fIf (bA (aA (af (aa 8) (fC .non) ft)) (aA (af (aa 9) (fC .non) ft))) (aF (fC (.bl false))) aM)
    (ax (ic 10 (dm (aX 6 1 ah dG) (dm (aX 6 1 ah dO) (dm (aX 6 3 (ae (fC (.str "f")) (ae (aa 2) ah)) b7) (dm (aX 6 3 (ae (fC (.str "b")) (ae (aa 2) ah)) b7) kC)))))
    (ax (iL 10 11 (.str "x"))
    (ax (fIf (bO (aA (aX 7 4 (ae (af (aa 9) (fC (.int 0)) gIx) (ae (af (aa 9) (fC (.int 1)) gIx) (ae (af (aa 9) (fC (.int 2)) gIx) ah))) eY))) (aF (fC (.bl false))) aM)
    (aF (aX 6 4 (ae (af (aa 8) (fC (.int 0)) gIx) (ae (af (aa 8) (fC (.int 1)) gIx) (ae (af (aa 8) (fC (.int 2)) gIx) ah))) eY)))))))))))))))
noncomputable def jz : List D → Ro := bV sm 12
theorem Am {f : Addr} {fd : FuncData} (F : Fun K "law" "law" fU f fd) (T : Txt K mg) {C : Addr} (TB : aV K C) (F_Bed : MkB P w K mg base C) (F_played : lg P w K mg base 6 "_law_played" 2 fj) (F_stands : cc P w K mg base 4 "_law_stands" 4 eY) (F_cell_at : cc P w K mg base 1 "_law_cell_at" 2 dC) (F_Bed_cloth : MethP P w K mg base C 1 "cloth" 1 dG) (F_Bed_done : MethP P w K mg base C 1 "done" 1 dO) (F_Bed_hook : MethP P w K mg base C 2 "hook" 3 b7) (F_deed : cc P w K mg base 2 "_law_deed" 2 ik) : aO P w K mg base CX0 7 f fd ["script"] (spP K (fun _ => .none) 1 jz) :=
  fnP F dM fun cdv A outer s H E hr =>
      (aE (bt 1 dM.nd aw)
      (aE (bc (aY (cD hr.units) (aN cT (aN gD (cx F_cell_at (hr.mono (by decide)) (ao (ag 0) (ao aw ay))) aw) aw) aw (ba _)) (aG (bt 1 dM.nd aw)) bq)
      (aE (bt 2 dM.nd (aN cT (cx F_cell_at (hr.mono (by decide)) (ao (ag 0) (ao aw ay))) aw))
      (aE (oI 3 dM.nd (eo ay))
      (aE (kc PassesOwn.never rfl (jQ T.b_range (ao (aN cT (cx F_cell_at (hr.mono (by decide)) (ao (ag 0) (ao aw ay))) aw) ay)) (fQ dM.nd) (aE (bt 5 dM.nd (aN da (aN cT (cx F_cell_at (hr.mono (by decide)) (ao (ag 0) (ao (aN da aw (ag 4)) ay))) aw) (aN kN aw (ag 4))))
      (aG (mR 3 (cx F_deed (hr.mono (by decide)) (ao (aN da (aN ig (ag 5) (aN cT (ag 5) aw)) (ag 2)) (ao (ag 1) ay)))))))
      (aE (tH 6 dM.nd TB F_Bed (hr.mono (by decide)))
      (aE (tH 7 dM.nd TB F_Bed (hr.mono (by decide)))
      (aE (kb 3 (bt 8 dM.nd (nY 6 F_played (hr.mono (by decide)) (ao (ag 3) ay))))
      (aE (kb 3 (bt 9 dM.nd (nY 7 F_played (hr.mono (by decide)) (ao (mj (N := ["k", "deeds"]) (sel := [none, some 3]) ⟨rfl, rfl, rfl, rfl, rfl, rfl⟩ rfl (jQ T.b_range (ao (cf cL T.b_len cS (ao (ag 3) ay)) ay)) (fun _ => fQ zH) (fun _ => (AM (aY (cD hr.units) (aN cT (ag 0) aw) aw (ba _)))) (fun _ => (aI (ag 1) (ag 0)))) ay))))
      (aE (bc (de (dH (aY oR (ag 8) fq (ba _)) (d5 (aY oR (ag 9) fq (ba _))))) (aG (aP dq)) bq)
      (aE (vJ 10 dM.nd (lu (lQ 6 TB F_Bed_cloth (hr.mono (by decide))) (lu (lQ 6 TB F_Bed_done (hr.mono (by decide))) (lu (fI 6 TB F_Bed_hook (hr.mono (by decide)) (ao bg (ao (ag 2) ay))) (lu (fI 6 TB F_Bed_hook (hr.mono (by decide)) (ao bg (ao (ag 2) ay))) u6)))))
      (aE (Bz 10 11 PassesOwn.never rfl dM.nd)
      (aE (bc (dn (dI (ub 7 F_stands (hr.mono (by decide)) (ao (aI (ag 9) aw) (ao (aI (ag 9) aw) (ao (aI (ag 9) aw) ay)))))) (aG (aP dq)) bq)
      (aG (aP (ub 6 F_stands (hr.mono (by decide)) (ao (aI (ag 8) aw) (ao (aI (ag 8) aw) (ao (aI (ag 8) aw) ay)))))))))))))))))))
end
end Lw
local macro_rules | `(tactic| walk_at "ev1") => `(tactic| first
  | (with_reducible (first | exact DL.aj | exact DL.aB | exact DL.bh))
  | ((with_reducible apply DL.ai); rfl)
  | ((with_reducible apply DL.dA); rfl)
  | ((with_reducible change DL.res _ _ = _); rfl)
  | ((with_reducible change DL.norm _ = _); rfl)
  | ((with_reducible change DL.bY _ = _); rfl)
  | ((with_reducible change DL.iN _ _ = _); rfl)
  | (with_reducible (first | assumption))
  | ((with_reducible change DL.cX _ _ _ _ = _); assumption)
  | ((with_reducible change DL.nM _ _ _ _ = _); assumption)
  | ((with_reducible change DL.bK _ _ _ _ _ _ = _); assumption)
  | (with_reducible (first | apply DL.ak | apply DL.aq | apply DL.jY | apply DL.cy | apply DL.av | apply DL.az | exact DL.fh | apply DL.aS | apply DL.ko | apply DL.d8 | apply DL.eu | apply DL.aK | apply DL.kh | apply DL.kM | apply DL.mV | apply DL.mf | apply DL.aJ | apply DL.An | apply DL.AD))
  | ((with_reducible apply DL.bS); first | with_reducible assumption | decide | with_unfolding_all rfl)
  | ((with_reducible apply DL.aW); first | with_reducible assumption | decide | with_unfolding_all rfl)
  | (with_reducible (first | apply DL.zp | apply DL.eX))
  | ((with_reducible apply DL.lq); rfl)
  | (with_reducible (first | apply DL.kT | apply DL.lP | apply DL.bQ | exact DL.cN | exact DL.lD))
  | ((with_reducible change DL.fk _ _ _ = _); rfl)
  | (with_reducible (first | exact DL.jn | exact DL.xq | apply DL.nN | exact DL.iK | apply DL.qB | apply DL.qS | apply DL.gu | apply DL.cg | apply DL.eR | apply DL.yn | apply DL.iS | exact DL.zS | exact DL.wo | exact DL.Aw | exact DL.zZ | exact DL.rF))
  | rfl
  | ((with_reducible apply DL.yX) <;> omega)
  | ((with_reducible apply DL.qo) <;> omega)
  | ((with_reducible apply DL.jC) <;> omega)
  | exact Nat.le_of_ble_eq_true rfl
  | (unfold PySem.sizeLine; omega)
  | assumption)
local macro_rules | `(tactic| walk_at "ev") => `(tactic| repeat walk_at "ev1")
namespace Lw
open PySem L2 DL
noncomputable def eQ (ns : List Int) (k : Int) : Int := if k < ns.length then ns.getD k.toNat 0 else 0
theorem oB (ns : List Int) (k : Int) (hk : 0 ≤ k) : dC [.scr ns, .int k] = .ok (.int (eQ ns k)) := by
  unfold dC tq eQ
  by_cases h : k < ns.length
  · have e : gIx (.scr ns) (.int k) = some (.val (.int (ns.getD k.toNat 0))) := by
      show (atI ns k).map _ = _
      unfold atI ixN
      rw [if_pos hk, if_pos h]
      have : k.toNat < ns.length := by omega
      show (ns[k.toNat]?).map _ = _
      rw [List.getD_eq_getElem?_getD, List.getElem?_eq_getElem this]; rfl
    rw [if_pos h]
    have hb : lt k ns.length = true := decide_eq_true h
    walk_at "ev"
  · rw [if_neg h]
    have hb : lt k ns.length = false := decide_eq_false h
    walk_at "ev"
noncomputable def bN (c k : Int) : Int :=
  let s1 := (c + 7919 * (k + 3)) % 2147483647
  let s2 := (s1 * s1 + 104729 * k + 5) % 2147483629
  s2 * s2 % 2147483587
theorem iV (c k : Int) : eF [.int c, .int k] = .ok (.int (bN c k)) := by
  unfold eF qy bN
  walk_at "ev"
noncomputable def m6 : List Str := ["a", "b", "c", "d", "e", "f"]
theorem Av (x : Int) : ∃ y : Str, gIx (.str "abcdef") (.int (x % 6)) = some (.val (.str y)) ∧ y ∈ m6 := by
  have : x % 6 = 0 ∨ x % 6 = 1 ∨ x % 6 = 2 ∨ x % 6 = 3 ∨ x % 6 = 4 ∨ x % 6 = 5 := by omega
  rcases this with h | h | h | h | h | h <;> rw [h]
  · exact ⟨"a", by kernel_rfl, by decide +kernel⟩
  · exact ⟨"b", by kernel_rfl, by decide +kernel⟩
  · exact ⟨"c", by kernel_rfl, by decide +kernel⟩
  · exact ⟨"d", by kernel_rfl, by decide +kernel⟩
  · exact ⟨"e", by kernel_rfl, by decide +kernel⟩
  · exact ⟨"f", by kernel_rfl, by decide +kernel⟩
theorem rT {c c1 : DM Bool} {δ : DSt} {b b1 : Bool} (h : c δ = .ok b δ) (h1 : c1 δ = .ok b1 δ) : cO c c1 δ = .ok (b && b1) δ := by
  unfold cO DM.bd; simp only [h]; cases b <;> simp [h1, DM.ret]
theorem nv {c c1 : DM Bool} {δ : DSt} {b b1 : Bool} (h : c δ = .ok b δ) (h1 : c1 δ = .ok b1 δ) : bA c c1 δ = .ok (b || b1) δ := by
  unfold bA DM.bd; simp only [h]; cases b <;> simp [h1, DM.ret]
end Lw
namespace Lw
open PySem L2 DL
noncomputable def iD (cs : List Int) : List D := cs.map D.int
theorem eK (cs : List Int) : (iD cs).length = cs.length := List.length_map _
theorem uG {cs : List Int} {i : Int} {c : Int} (h0 : 0 ≤ i) (h : cs[i.toNat]? = some c) : gIx (.lst (iD cs)) (.int i) = some (.val (.int c)) :=
  lJ (mJ h0 (by unfold iD; rw [List.getElem?_map, h]; rfl))
theorem lZ (cs : List Int) : aZ [.lst (iD cs)] = some (.val (.int (cs.length : Int))) := by
  show some (DV.val (.int _)) = _
  rw [eK]
noncomputable abbrev Lp := Str × Str × List Int
noncomputable def lpD (l : Lp) : D := .tup [.str l.1, .str l.2.1, .tup (iD l.2.2)]
noncomputable def clD (cl : List Lp) : List D := cl.map lpD
noncomputable def lvD (lv : List (List Int)) : List D := lv.map fun l => .lst (iD l)
theorem iB (cl : List Lp) : (clD cl).length = cl.length := List.length_map _
theorem pb (lv : List (List Int)) : (lvD lv).length = lv.length := List.length_map _
theorem mS (a b : List Int) : iD (a ++ b) = iD a ++ iD b := List.map_append
theorem oV (a b : List Lp) : clD (a ++ b) = clD a ++ clD b := List.map_append
theorem jT {lv : List (List Int)} {i : Int} {l : List Int} (h0 : 0 ≤ i) (h : lv[i.toNat]? = some l) : gIx (.lst (lvD lv)) (.int i) = some (.val (.lst (iD l))) :=
  lJ (mJ h0 (by unfold lvD; rw [List.getElem?_map, h]; rfl))
theorem mT (pl : List (List Int)) (i : Nat) (l : List Int) : lvD (pl.set i l) = (lvD pl).set i (.lst (iD l)) := by
  unfold lvD; rw [List.map_set]
end Lw
namespace Lw
open PySem L2 DL
theorem n8 (i : Int) : dr [.int i] = .ok (.bl true) := by
  unfold dr rb
  walk_at "ev"
theorem sZ : ∀ (ds : List D), iy (ds.map fun _ => D.bl true) = some (ds.map fun _ => true)
  | [] => rfl
  | d :: ds => by
    show (iy (ds.map fun _ => D.bl true)).map _ = _
    rw [sZ ds]; rfl
theorem all_true (ds : List D) : lY [.lst (ds.map fun _ => D.bl true)] = some (.val (.bl true)) := by
  show (iy _).map _ = _
  rw [sZ]
  show some (DV.val (.bl (List.all _ id))) = _
  rw [List.all_map, (List.all_eq_true.mpr fun _ _ => rfl : List.all ds (id ∘ fun _ => true) = true)]
theorem zT (us : List Int) (hl : us.length ≤ 1000) : bK (bw 0) (.ret true) (aR 1 (ae (aa 0) ah) dr) (iD us) [.no] [] = some ((iD us).map fun _ => D.bl true) := by
  rw [comp_map (g := fun _ => .bl true) _ .no (by rw [eK]; unfold sizeLine; omega) ?_]
  intro d hd
  obtain ⟨c, hc', rfl⟩ := List.mem_map.mp hd
  have h1 := n8 c
  have h3 : (aR 1 (ae (aa 0) ah) dr) [.sh (.int c)] = .ok (.val (.bl true)) [.sh (.int c)] := by walk_at "ev"
  unfold fN DM.bd
  rw [h3]
  rfl
theorem zu (n : Nat) (us : List Int) : (iD us).all (okD (n + 1)) = true := by
  unfold iD
  rw [List.all_map]
  exact List.all_eq_true.mpr fun _ _ => rfl
theorem ze (l : Lp) : cZ 8 (lpD l) (lpD l) = some true := by
  refine ei 8 _ ?_
  show (okD 7 (.str l.1) && (okD 7 (.str l.2.1) && ((iD l.2.2).all (okD 6) && true))) = true
  rw [zu]; rfl
theorem Au (l : Lp) (hl : l.2.2.length ≤ 1000) : iF [lpD l] = .ok (.bl true) := by
  have g1 : aZ [lpD l] = some (.val (.int 3)) := rfl
  have g2 : gNe (.int 3) (.int 3) = some (.val (.bl false)) := eR (ei 8 _ rfl)
  have g3 : gIx (lpD l) (.int 0) = some (.val (.str l.1)) := rfl
  have g4 : gIx (lpD l) (.int 1) = some (.val (.str l.2.1)) := rfl
  have g5 : gIx (lpD l) (.int 2) = some (.val (.tup (iD l.2.2))) := rfl
  have g6 : mX (.tup (iD l.2.2)) = some (iD l.2.2) := rfl
  have g7 := zT l.2.2 hl
  have g8 := all_true (iD l.2.2)
  have g9 : gIs "tuple" (lpD l) = some (.val (.bl true)) := rF
  unfold iF qr
  walk_at "ev"
noncomputable def bAC : DM Fl := (fIf (bA (bO (aA (aR 1 (ae (af (aa 0) (aa 2) gIx) ah) iF))) (aA (af (af (aa 0) (aa 2) gIx) (af (aa 1) (aa 2) gIx) gNe))) (aF (fC (.bl false))) aM)
theorem rZ (cl : List Lp) (hl : ∀ l ∈ cl, l.2.2.length ≤ 1000) : ∀ (ks : List D) (b2 : Sl), (∀ d ∈ ks, ∃ k : Nat, k < cl.length ∧ d = .int (k : Int)) → ∃ x2,
    cX (bw 2) bAC ks [.sh (.lst (clD cl)), .sh (.lst (clD cl)), b2] = .ok .nx [.sh (.lst (clD cl)), .sh (.lst (clD cl)), x2]
  | [], b2, _ => ⟨b2, rfl⟩
  | d :: ks, b2, h => by
    obtain ⟨k, hk, rfl⟩ := h d List.mem_cons_self
    obtain ⟨x2, e⟩ := rZ cl hl ks (.sh (.int (k : Int))) fun d hd => h d (List.mem_cons_of_mem _ hd)
    refine ⟨x2, kB rfl ?_ e⟩
    have g1 : gIx (.lst (clD cl)) (.int (k : Int)) = some (.val (lpD cl[k])) := lJ (mJ (by omega) (by
      unfold clD
      rw [List.getElem?_map, show (k : Int).toNat = k by omega, List.getElem?_eq_getElem hk]; rfl))
    have g2 := Au cl[k] (hl _ (List.getElem_mem hk))
    have g3 : gNe (lpD cl[k]) (lpD cl[k]) = some (.val (.bl false)) := eR (ze _)
    unfold bAC
    walk_at "ev"
theorem uq (cl : List Lp) (hc : cl.length ≤ 1000) (hl : ∀ l ∈ cl, l.2.2.length ≤ 1000) : jG [.lst (clD cl), .lst (clD cl)] = .ok (.bl true) := by
  have g1 : aZ [.lst (clD cl)] = some (.val (.int (cl.length : Int))) := by
    show some (DV.val (.int _)) = _
    rw [iB]
  have g2 : gNe (.int (cl.length : Int)) (.int (cl.length : Int)) = some (.val (.bl false)) := eR (ei 8 _ rfl)
  have g3 : iu (cl.length : Int) = true := jC (by omega) (by omega)
  obtain ⟨x2, e⟩ := rZ cl hl (b9 0 (cl.length : Int).toNat) .no fun d hd => by
    obtain ⟨k, hk, q⟩ := oY hd
    exact ⟨k, by omega, q⟩
  unfold bAC at e
  unfold jG rU
  walk_at "ev"
end Lw
namespace Lw
open PySem L2 DL
noncomputable def bAH : DM Fl := (fIf (bA (bO (aA (aR 1 (ae (af (aa 0) (aa 2) gIx) ah) dr))) (aA (af (af (aa 0) (aa 2) gIx) (af (aa 1) (aa 2) gIx) gNe))) (aF (fC (.bl false))) aM)
theorem qV (us : List Int) : ∀ (ks : List D) (b2 : Sl), (∀ d ∈ ks, ∃ k : Nat, k < us.length ∧ d = .int (k : Int)) → ∃ x2,
    cX (bw 2) bAH ks [.sh (.lst (iD us)), .sh (.lst (iD us)), b2] = .ok .nx [.sh (.lst (iD us)), .sh (.lst (iD us)), x2]
  | [], b2, _ => ⟨b2, rfl⟩
  | d :: ks, b2, h => by
    obtain ⟨k, hk, rfl⟩ := h d List.mem_cons_self
    obtain ⟨x2, e⟩ := qV us ks (.sh (.int (k : Int))) fun d hd => h d (List.mem_cons_of_mem _ hd)
    refine ⟨x2, kB rfl ?_ e⟩
    have g1 : gIx (.lst (iD us)) (.int (k : Int)) = some (.val (.int us[k])) := uG (by omega) (by rw [show (k : Int).toNat = k by omega, List.getElem?_eq_getElem hk])
    have g2 := n8 us[k]
    have g3 : gNe (.int us[k]) (.int us[k]) = some (.val (.bl false)) := eR (ei 8 _ rfl)
    unfold bAH
    walk_at "ev"
theorem qI (us : List Int) (hc : us.length ≤ 1000) : gb [.lst (iD us), .lst (iD us)] = .ok (.bl true) := by
  have g1 := lZ us
  have g2 : gNe (.int (us.length : Int)) (.int (us.length : Int)) = some (.val (.bl false)) := eR (ei 8 _ rfl)
  have g3 : iu (us.length : Int) = true := jC (by omega) (by omega)
  obtain ⟨x2, e⟩ := qV us (b9 0 (us.length : Int).toNat) .no fun d hd => by
    obtain ⟨k, hk, q⟩ := oY hd
    exact ⟨k, by omega, q⟩
  unfold bAH at e
  unfold gb qL
  walk_at "ev"
end Lw
namespace Lw
open PySem L2 DL
inductive Dd where
  | ky (k r : Str) (a : Int) (y : Str)
  | mv (r : Str) (a t : Int)
noncomputable def Dd.D : Dd → D
  | .ky k r a y => .tup [.str k, .str r, .int a, .str y]
  | .mv r a t => .tup [.str "move", .str r, .int a, .int t]
noncomputable def Dd.at : Dd → Int
  | .ky _ _ a _ => a
  | .mv _ a _ => a
noncomputable def cK (r : Str) : Prop := r = Str.ofString "f" ∨ r = Str.ofString "b"
noncomputable def Dd.ok : Dd → Prop
  | .ky k r a y => (k = Str.ofString "knit" ∨ k = Str.ofString "tuck") ∧ cK r ∧ 0 ≤ a ∧ a ≤ 15 ∧ y ∈ m6
  | .mv r a t => cK r ∧ 0 ≤ a ∧ a ≤ 15 ∧ 0 ≤ t ∧ t ≤ 15
theorem xF (x : Int) : ∃ r : Str, gIx (.str "fb") (.int (x % 2)) = some (.val (.str r)) ∧ cK r := by
  have : x % 2 = 0 ∨ x % 2 = 1 := by omega
  rcases this with h | h <;> rw [h]
  · exact ⟨"f", by kernel_rfl, .inl rfl⟩
  · exact ⟨"b", by kernel_rfl, .inr rfl⟩
theorem me (t : Int) : 0 ≤ imax 0 (gv 15 t) ∧ imax 0 (gv 15 t) ≤ 15 := by
  unfold imax gv
  split <;> split <;> omega
theorem tG {k : Str} (h : k = Str.ofString "knit" ∨ k = Str.ofString "tuck") : gEq (.str k) (.str (Str.ofString "move")) = some (.val (.bl false)) := by
  rcases h with rfl | rfl
  · exact cg (by decide +kernel)
  · exact cg (by decide +kernel)
theorem p6 : gEq (.str (Str.ofString "move")) (.str (Str.ofString "move")) = some (.val (.bl true)) := cg (ei 8 _ rfl)
end Lw
namespace Lw
open PySem L2 DL
theorem lz {r : Str} (h : cK r) : gEq (.str r) (.str (Str.ofString "f")) = some (.val (.bl (decide (r = Str.ofString "f")))) := by
  rcases h with rfl | rfl
  · rw [decide_eq_true rfl]; exact cg (by decide +kernel)
  · rw [decide_eq_false (by decide +kernel)]; exact cg (by decide +kernel)
theorem yL {r : Str} (h : cK r) : gEq (.str r) (.str (Str.ofString "b")) = some (.val (.bl (!decide (r = Str.ofString "f")))) := by
  rcases h with rfl | rfl
  · rw [decide_eq_true rfl]; exact cg (b := false) (by decide +kernel)
  · rw [decide_eq_false (by decide +kernel)]; exact cg (b := true) (by decide +kernel)
noncomputable def hk (r : Str) (a : Int) : Int := if r = Str.ofString "f" then a else 16 + a
noncomputable def other (r : Str) : Str := if r = Str.ofString "f" then Str.ofString "b" else Str.ofString "f"
theorem mD (r : Str) : cK (other r) := by
  unfold other
  split
  · exact .inr rfl
  · exact .inl rfl
theorem cH {r : Str} {a : Int} (h0 : 0 ≤ a) (h1 : a ≤ 15) : 0 ≤ hk r a ∧ hk r a < 32 := by
  unfold hk
  split <;> omega
theorem pK {r : Str} (h : cK r) (a : Int) : gG [.str r, .int a] = .ok (.int (hk r a)) := by
  have e := lz h
  unfold gG sk hk
  by_cases hr : r = Str.ofString "f"
  · have d : decide (r = Str.ofString "f") = true := decide_eq_true hr
    rw [if_pos hr]
    walk_at "ev"
  · have d : decide (r = Str.ofString "f") = false := decide_eq_false hr
    rw [if_neg hr]
    walk_at "ev"
theorem oC {r : Str} (h : cK r) {a : Int} (h0 : 0 ≤ a) (h1 : a ≤ 15) {hs : List (List Int)} {l : List Int} (hl : hs[(hk r a).toNat]? = some l) : dJ [.non, .str r, .int a] [lvD hs] = .ok (.lst (iD l)) [lvD hs] := by
  have e := lz h
  have g := jT (cH (r := r) h0 h1).1 hl
  unfold dJ rX
  unfold hk at g
  by_cases hr : r = Str.ofString "f"
  · have d : decide (r = Str.ofString "f") = true := decide_eq_true hr
    rw [if_pos hr] at g
    apply gO
    · walk_at "ev"
    · rfl
  · have d : decide (r = Str.ofString "f") = false := decide_eq_false hr
    rw [if_neg hr] at g
    apply gO
    · walk_at "ev"
    · rfl
end Lw
namespace Lw
open PySem L2 DL
noncomputable def hAt (hs : List (List Int)) (i : Int) : List Int := hs.getD i.toNat []
theorem gB {hs : List (List Int)} {i : Int} (h : i.toNat < hs.length) : hs[i.toNat]? = some (hAt hs i) := by
  unfold hAt
  rw [List.getD_eq_getElem?_getD, List.getElem?_eq_getElem h]; rfl
noncomputable def cj (hs : List (List Int)) : Dd → Option Str
  | .ky k r a _ => if k = Str.ofString "knit" ∧ hAt hs (hk r a) = [] then some (Str.ofString "empty") else if k = Str.ofString "tuck" ∧ (hAt hs (hk r a)).length = 4 then some (Str.ofString "full") else none
  | .mv r a t => if a - t > 2 ∨ t - a > 2 then some (Str.ofString "far") else if hAt hs (hk r a) = [] then some (Str.ofString "empty") else if (hAt hs (hk r a)).length + (hAt hs (hk (other r) t)).length > 4 then some (Str.ofString "full") else none
noncomputable def j2 : Option Str → D
  | none => .non
  | some s => .str s
theorem eq_nil (l : List Int) : gEq (.lst (iD l)) (.lst []) = some (.val (.bl (decide (l = [])))) := by
  cases l with
  | nil => exact cg rfl
  | cons a q => rw [decide_eq_false (by intro z; cases z)]; exact cg rfl
theorem xp (hs : List (List Int)) (h32 : hs.length = 32) (r : Str) (a t : Int) (hd : (Dd.mv r a t).ok) : eZ [.non, (Dd.mv r a t).D] [lvD hs] = .ok (j2 (cj hs (.mv r a t))) [lvD hs] := by
  obtain ⟨hr, ha0, ha1, ht0, ht1⟩ := hd
  have b1 := cH (r := r) ha0 ha1
  have b2 := cH (r := other r) ht0 ht1
  have k1 := oC hr ha0 ha1 (gB (hs := hs) (i := hk r a) (by omega))
  have k2 := oC (mD r) ht0 ht1 (gB (hs := hs) (i := hk (other r) t) (by omega))
  have hw : cj hs (.mv r a t) = if a - t > 2 ∨ t - a > 2 then some (Str.ofString "far") else if hAt hs (hk r a) = [] then some (Str.ofString "empty") else if (hAt hs (hk r a)).length + (hAt hs (hk (other r) t)).length > 4 then some (Str.ofString "full") else none := rfl
  rw [hw]
  generalize hAt hs (hk r a) = l1 at *
  generalize hAt hs (hk (other r) t) = l2 at *
  have i0 : gIx (Dd.mv r a t).D (.int 0) = some (.val (.str "move")) := rfl
  have i1 : gIx (Dd.mv r a t).D (.int 1) = some (.val (.str r)) := rfl
  have i2 : gIx (Dd.mv r a t).D (.int 2) = some (.val (.int a)) := rfl
  have i3 : gIx (Dd.mv r a t).D (.int 3) = some (.val (.int t)) := rfl
  have m1 := p6
  have en := eq_nil l1
  have ef := lz hr
  have l1e := lZ l1
  have l2e := lZ l2
  have s1 : (aL 2 (cJ 3 [0] (ae (aa 0) (ae (af (aa 1) (fC (.int 1)) gIx) (ae (af (aa 1) (fC (.int 2)) gIx) ah))) dJ)) [.ow (lvD hs), .sh (Dd.mv r a t).D, .no, .no] = .ok .nx [.ow (lvD hs), .sh (Dd.mv r a t).D, .sh (.lst (iD l1)), .no] :=
    aS (iS (is := [0]) (js := [0]) (mss := [lvD hs]) (ds := [.non, .str r, .int a]) (aq (dA rfl) (aq (ak (ai rfl) aj rfl rfl i1) (aq (ak (ai rfl) aj rfl rfl i2) aB))) rfl (by decide) rfl rfl rfl k1 jn) rfl
  have q1 : bU gt (.int (a - t)) (.int 2) = some (.val (.bl (decide (a - t > 2)))) := rfl
  have q2 : bU gt (.int (t - a)) (.int 2) = some (.val (.bl (decide (t - a > 2)))) := rfl
  have t1 : (bA (aA (af (af (af (aa 1) (fC (.int 2)) gIx) (af (aa 1) (fC (.int 3)) gIx) cV) (fC (.int 2)) (bU gt))) (aA (af (af (af (aa 1) (fC (.int 3)) gIx) (af (aa 1) (fC (.int 2)) gIx) cV) (fC (.int 2)) (bU gt)))) [.ow (lvD hs), .sh (Dd.mv r a t).D, .sh (.lst (iD l1)), .no] = .ok (decide (a - t > 2) || decide (t - a > 2)) [.ow (lvD hs), .sh (Dd.mv r a t).D, .sh (.lst (iD l1)), .no] := nv (by walk_at "ev") (by walk_at "ev")
  have tm : aA (af (af (aa 1) (fC (.int 0)) gIx) (fC (.str "move")) gEq) [.ow (lvD hs), .sh (Dd.mv r a t).D, .sh (.lst (iD l1)), .no] = .ok true [.ow (lvD hs), .sh (Dd.mv r a t).D, .sh (.lst (iD l1)), .no] := aK (ak (ak (ai rfl) aj rfl rfl i0) aj rfl rfl m1) rfl
  have tn : aA (af (aa 2) (bF ah) gEq) [.ow (lvD hs), .sh (Dd.mv r a t).D, .sh (.lst (iD l1)), .no] = .ok (decide (l1 = [])) [.ow (lvD hs), .sh (Dd.mv r a t).D, .sh (.lst (iD l1)), .no] := aK (ak (ai rfl) (eu aB rfl (Nat.le_of_ble_eq_true rfl)) rfl rfl en) rfl
  unfold eZ oy
  by_cases h1 : a - t > 2 ∨ t - a > 2
  · have d1 : (decide (a - t > 2) || decide (t - a > 2)) = true := by
      rcases h1 with h | h
      · rw [decide_eq_true h]; rfl
      · rw [decide_eq_true h, Bool.or_true]
    rw [if_pos h1]
    apply gO
    · apply av
      · exact s1
      apply az
      apply av
      · apply aJ
        · exact tm
        apply bS rfl
        apply av
        · apply aJ
          · exact t1
          apply bS d1
          apply bQ
          · exact aj
          exact cN
        exact fh
      exact fh
    · rfl
  · have d1 : (decide (a - t > 2) || decide (t - a > 2)) = false := by
      rw [decide_eq_false (fun z => h1 (.inl z)), decide_eq_false (fun z => h1 (.inr z))]; rfl
    rw [if_neg h1]
    by_cases h2 : l1 = []
    · have d2 : decide (l1 = []) = true := decide_eq_true h2
      rw [if_pos h2]
      apply gO
      · apply av
        · exact s1
        apply az
        apply av
        · apply aJ
          · exact tm
          apply bS rfl
          apply av
          · apply aJ
            · exact t1
            apply aW d1
            exact bh
          apply az
          apply av
          · apply aJ
            · exact tn
            apply bS d2
            apply bQ
            · exact aj
            exact cN
          exact fh
        exact fh
      · rfl
    · have d2 : decide (l1 = []) = false := decide_eq_false h2
      rw [if_neg h2]
      have q4 : bU gt (.int ((l1.length : Int) + (l2.length : Int))) (.int 4) = some (.val (.bl (decide (((l1.length : Int) + (l2.length : Int)) > 4)))) := rfl
      have hcall : (cJ 3 [0] (ae (aa 0) (ae (aa 3) (ae (af (aa 1) (fC (.int 3)) gIx) ah))) dJ) [.ow (lvD hs), .sh (Dd.mv r a t).D, .sh (.lst (iD l1)), .sh (.str (other r))] = .ok (.val (.lst (iD l2))) [.ow (lvD hs), .sh (Dd.mv r a t).D, .sh (.lst (iD l1)), .sh (.str (other r))] :=
        iS (is := [0]) (js := [0]) (mss := [lvD hs]) (ds := [.non, .str (other r), .int t]) (aq (dA rfl) (aq (ai rfl) (aq (ak (ai rfl) aj rfl rfl i3) aB))) rfl (by decide) rfl rfl rfl k2 jn
      have tf : aA (af (af (fCB (ae (aa 2) ah) aZ) (fCB (ae (cJ 3 [0] (ae (aa 0) (ae (aa 3) (ae (af (aa 1) (fC (.int 3)) gIx) ah))) dJ) ah) aZ) bj) (fC (.int 4)) (bU gt)) [.ow (lvD hs), .sh (Dd.mv r a t).D, .sh (.lst (iD l1)), .sh (.str (other r))] = .ok (decide (((l1.length : Int) + (l2.length : Int)) > 4)) [.ow (lvD hs), .sh (Dd.mv r a t).D, .sh (.lst (iD l1)), .sh (.str (other r))] :=
        aK (ak (ak (cy (aq (ai rfl) aB) rfl l1e) (cy (aq hcall aB) rfl l2e) rfl rfl iK) aj rfl rfl q4) rfl
      have fin : (ax (fIf (aA (af (af (fCB (ae (aa 2) ah) aZ) (fCB (ae (cJ 3 [0] (ae (aa 0) (ae (aa 3) (ae (af (aa 1) (fC (.int 3)) gIx) ah))) dJ) ah) aZ) bj) (fC (.int 4)) (bU gt))) (aF (fC (.str "full"))) aM) (aF (fC .non))) [.ow (lvD hs), .sh (Dd.mv r a t).D, .sh (.lst (iD l1)), .sh (.str (other r))] = .ok (.rt (j2 (if l1.length + l2.length > 4 then some (Str.ofString "full") else none))) [.ow (lvD hs), .sh (Dd.mv r a t).D, .sh (.lst (iD l1)), .sh (.str (other r))] := by
        by_cases h4 : l1.length + l2.length > 4
        · rw [if_pos h4]
          exact av (aJ tf (bS (decide_eq_true (by omega)) (bQ aj cN))) fh
        · rw [if_neg h4]
          exact av (aJ tf (aW (decide_eq_false (by omega)) bh)) (az (bQ aj cN))
      have s3 : (ax (aL 3 (fC (.str "f"))) (ax (fIf (aA (af (af (aa 1) (fC (.int 1)) gIx) (fC (.str "f")) gEq)) (aL 3 (fC (.str "b"))) aM) (ax (fIf (aA (af (af (fCB (ae (aa 2) ah) aZ) (fCB (ae (cJ 3 [0] (ae (aa 0) (ae (aa 3) (ae (af (aa 1) (fC (.int 3)) gIx) ah))) dJ) ah) aZ) bj) (fC (.int 4)) (bU gt))) (aF (fC (.str "full"))) aM) (aF (fC .non))))) [.ow (lvD hs), .sh (Dd.mv r a t).D, .sh (.lst (iD l1)), .no] = .ok (.rt (j2 (if l1.length + l2.length > 4 then some (Str.ofString "full") else none))) [.ow (lvD hs), .sh (Dd.mv r a t).D, .sh (.lst (iD l1)), .sh (.str (other r))] := by
        by_cases hf : r = Str.ofString "f"
        · have d : decide (r = Str.ofString "f") = true := decide_eq_true hf
          have ho : other r = Str.ofString "b" := if_pos hf
          rw [ho] at fin ⊢
          exact av (aS aj rfl) (az (av (aJ (aK (ak (ak (ai rfl) aj rfl rfl i1) aj rfl rfl ef) rfl) (bS d (aS aj rfl))) (az fin)))
        · have d : decide (r = Str.ofString "f") = false := decide_eq_false hf
          have ho : other r = Str.ofString "f" := if_neg hf
          rw [ho] at fin ⊢
          exact av (aS aj rfl) (az (av (aJ (aK (ak (ak (ai rfl) aj rfl rfl i1) aj rfl rfl ef) rfl) (aW d bh)) (az fin)))
      apply gO
      · apply av
        · exact s1
        apply az
        apply av
        · apply aJ
          · exact tm
          apply bS rfl
          apply av
          · apply aJ
            · exact t1
            apply aW d1
            exact bh
          apply az
          apply av
          · apply aJ
            · exact tn
            apply aW d2
            exact bh
          apply az
          exact s3
        exact fh
      · rfl
theorem ur (hs : List (List Int)) (h32 : hs.length = 32) (k r : Str) (a : Int) (y : Str) (hd : (Dd.ky k r a y).ok) : eZ [.non, (Dd.ky k r a y).D] [lvD hs] = .ok (j2 (cj hs (.ky k r a y))) [lvD hs] := by
  obtain ⟨hk', hr, ha0, ha1, _⟩ := hd
  have b1 := cH (r := r) ha0 ha1
  have k1 := oC hr ha0 ha1 (gB (hs := hs) (i := hk r a) (by omega))
  have hw : cj hs (.ky k r a y) = if k = Str.ofString "knit" ∧ hAt hs (hk r a) = [] then some (Str.ofString "empty") else if k = Str.ofString "tuck" ∧ (hAt hs (hk r a)).length = 4 then some (Str.ofString "full") else none := rfl
  rw [hw]
  generalize hAt hs (hk r a) = l1 at *
  have i0 : gIx (Dd.ky k r a y).D (.int 0) = some (.val (.str k)) := rfl
  have i1 : gIx (Dd.ky k r a y).D (.int 1) = some (.val (.str r)) := rfl
  have i2 : gIx (Dd.ky k r a y).D (.int 2) = some (.val (.int a)) := rfl
  have m1 := tG hk'
  have en := eq_nil l1
  have l1e := lZ l1
  have e4 : gEq (.int (l1.length : Int)) (.int 4) = some (.val (.bl (decide ((l1.length : Int) = 4)))) := cg rfl
  have s1 : (aL 2 (cJ 3 [0] (ae (aa 0) (ae (af (aa 1) (fC (.int 1)) gIx) (ae (af (aa 1) (fC (.int 2)) gIx) ah))) dJ)) [.ow (lvD hs), .sh (Dd.ky k r a y).D, .no, .no] = .ok .nx [.ow (lvD hs), .sh (Dd.ky k r a y).D, .sh (.lst (iD l1)), .no] :=
    aS (iS (is := [0]) (js := [0]) (mss := [lvD hs]) (ds := [.non, .str r, .int a]) (aq (dA rfl) (aq (ak (ai rfl) aj rfl rfl i1) (aq (ak (ai rfl) aj rfl rfl i2) aB))) rfl (by decide) rfl rfl rfl k1 jn) rfl
  have tn : aA (af (aa 2) (bF ah) gEq) [.ow (lvD hs), .sh (Dd.ky k r a y).D, .sh (.lst (iD l1)), .no] = .ok (decide (l1 = [])) [.ow (lvD hs), .sh (Dd.ky k r a y).D, .sh (.lst (iD l1)), .no] := aK (ak (ai rfl) (eu aB rfl (Nat.le_of_ble_eq_true rfl)) rfl rfl en) rfl
  have t4 : aA (af (fCB (ae (aa 2) ah) aZ) (fC (.int 4)) gEq) [.ow (lvD hs), .sh (Dd.ky k r a y).D, .sh (.lst (iD l1)), .no] = .ok (decide ((l1.length : Int) = 4)) [.ow (lvD hs), .sh (Dd.ky k r a y).D, .sh (.lst (iD l1)), .no] := aK (ak (cy (aq (ai rfl) aB) rfl l1e) aj rfl rfl e4) rfl
  have tmv : aA (af (af (aa 1) (fC (.int 0)) gIx) (fC (.str "move")) gEq) [.ow (lvD hs), .sh (Dd.ky k r a y).D, .sh (.lst (iD l1)), .no] = .ok false [.ow (lvD hs), .sh (Dd.ky k r a y).D, .sh (.lst (iD l1)), .no] := aK (ak (ak (ai rfl) aj rfl rfl i0) aj rfl rfl m1) rfl
  have ek : gEq (.str k) (.str (Str.ofString "knit")) = some (.val (.bl (decide (k = Str.ofString "knit")))) := by
    rcases hk' with rfl | rfl
    · rw [decide_eq_true rfl]; exact cg (by decide +kernel)
    · rw [decide_eq_false (by decide +kernel)]; exact cg (by decide +kernel)
  have et : gEq (.str k) (.str (Str.ofString "tuck")) = some (.val (.bl (decide (k = Str.ofString "tuck")))) := by
    rcases hk' with rfl | rfl
    · rw [decide_eq_false (by decide +kernel)]; exact cg (by decide +kernel)
    · rw [decide_eq_true rfl]; exact cg (by decide +kernel)
  have ta : cO (aA (af (af (aa 1) (fC (.int 0)) gIx) (fC (.str "knit")) gEq)) (aA (af (aa 2) (bF ah) gEq)) [.ow (lvD hs), .sh (Dd.ky k r a y).D, .sh (.lst (iD l1)), .no] = .ok (decide (k = Str.ofString "knit") && decide (l1 = [])) [.ow (lvD hs), .sh (Dd.ky k r a y).D, .sh (.lst (iD l1)), .no] := rT (aK (ak (ak (ai rfl) aj rfl rfl i0) aj rfl rfl ek) rfl) tn
  have tb : cO (aA (af (af (aa 1) (fC (.int 0)) gIx) (fC (.str "tuck")) gEq)) (aA (af (fCB (ae (aa 2) ah) aZ) (fC (.int 4)) gEq)) [.ow (lvD hs), .sh (Dd.ky k r a y).D, .sh (.lst (iD l1)), .no] = .ok (decide (k = Str.ofString "tuck") && decide ((l1.length : Int) = 4)) [.ow (lvD hs), .sh (Dd.ky k r a y).D, .sh (.lst (iD l1)), .no] := rT (aK (ak (ak (ai rfl) aj rfl rfl i0) aj rfl rfl et) rfl) t4
  unfold eZ oy
  by_cases h1 : k = Str.ofString "knit" ∧ l1 = []
  · rw [if_pos h1]
    have d1 : (decide (k = Str.ofString "knit") && decide (l1 = [])) = true := by rw [decide_eq_true h1.1, decide_eq_true h1.2]; rfl
    apply gO
    · exact av s1 (az (av (aJ tmv (aW rfl bh)) (az (av (aJ ta (bS d1 (bQ aj cN))) fh))))
    · rfl
  · rw [if_neg h1]
    have d1 : (decide (k = Str.ofString "knit") && decide (l1 = [])) = false := by
      rw [Bool.and_eq_false_iff]
      by_cases z : k = Str.ofString "knit"
      · exact .inr (decide_eq_false fun w => h1 ⟨z, w⟩)
      · exact .inl (decide_eq_false z)
    by_cases h2 : k = Str.ofString "tuck" ∧ l1.length = 4
    · rw [if_pos h2]
      have d2 : (decide (k = Str.ofString "tuck") && decide ((l1.length : Int) = 4)) = true := by rw [decide_eq_true h2.1, decide_eq_true (by omega)]; rfl
      apply gO
      · exact av s1 (az (av (aJ tmv (aW rfl bh)) (az (av (aJ ta (aW d1 bh)) (az (av (aJ tb (bS d2 (bQ aj cN))) fh))))))
      · rfl
    · rw [if_neg h2]
      have d2 : (decide (k = Str.ofString "tuck") && decide ((l1.length : Int) = 4)) = false := by
        rw [Bool.and_eq_false_iff]
        by_cases z : k = Str.ofString "tuck"
        · exact .inr (decide_eq_false fun w => h2 ⟨z, by omega⟩)
        · exact .inl (decide_eq_false z)
      apply gO
      · exact av s1 (az (av (aJ tmv (aW rfl bh)) (az (av (aJ ta (aW d1 bh)) (az (av (aJ tb (aW d2 bh)) (az (bQ aj cN))))))))
      · rfl
theorem uK (hs : List (List Int)) (h32 : hs.length = 32) (d : Dd) (hd : d.ok) : eZ [.non, d.D] [lvD hs] = .ok (j2 (cj hs d)) [lvD hs] := by
  cases d with
  | ky k r a y => exact ur hs h32 k r a y hd
  | mv r a t => exact xp hs h32 r a t hd
end Lw
namespace Lw
open PySem L2 DL
noncomputable def doF (hs : List (List Int)) (cl : List Lp) : Dd → List (List Int) × List Lp
  | .mv r a t => (((hs.set (hk (other r) t).toNat (hAt hs (hk (other r) t) ++ hAt hs (hk r a))).set (hk r a).toNat []), cl)
  | .ky k r a y => if k = Str.ofString "tuck" then (hs.set (hk r a).toNat (hAt hs (hk r a) ++ [(cl.length : Int)]), cl ++ [(y, Str.ofString "t", [])])
      else (hs.set (hk r a).toNat [(cl.length : Int)], cl ++ [(y, if r = Str.ofString "f" then Str.ofString "k" else Str.ofString "p", hAt hs (hk r a))])
theorem oJ {n : Nat} {i : Int} (h0 : 0 ≤ i) (h1 : i < n) : ixN n i = some i.toNat := by
  unfold ixN
  rw [if_pos h0, if_pos h1]
theorem yT (hs : List (List Int)) (cl : List Lp) (h32 : hs.length = 32) (hf : ∀ l ∈ hs, l.length ≤ 1000) (r : Str) (a t : Int) (hd : (Dd.mv r a t).ok) : eW [.non, .non, (Dd.mv r a t).D] [lvD hs, clD cl] = .ok .non [lvD (doF hs cl (.mv r a t)).1, clD (doF hs cl (.mv r a t)).2] := by
  obtain ⟨hr, ha0, ha1, ht0, ht1⟩ := hd
  have b1 := cH (r := r) ha0 ha1
  have b2 := cH (r := other r) ht0 ht1
  have i0 : gIx (Dd.mv r a t).D (.int 0) = some (.val (.str "move")) := rfl
  have i1 : gIx (Dd.mv r a t).D (.int 1) = some (.val (.str r)) := rfl
  have i2 : gIx (Dd.mv r a t).D (.int 2) = some (.val (.int a)) := rfl
  have i3 : gIx (Dd.mv r a t).D (.int 3) = some (.val (.int t)) := rfl
  have m1 := p6
  have eb := yL hr
  have hat := pK hr a
  have l1 := gB (hs := hs) (i := hk r a) (by omega)
  have l2 := gB (hs := hs) (i := hk (other r) t) (by omega)
  have g1 := jT b1.1 l1
  have g2 := jT b2.1 l2
  have z1 := hf _ (List.mem_of_getElem? l1)
  have z2 := hf _ (List.mem_of_getElem? l2)
  have ga : bj (.lst (iD (hAt hs (hk (other r) t)))) (.lst (iD (hAt hs (hk r a)))) = some (.own (iD (hAt hs (hk (other r) t) ++ hAt hs (hk r a)))) := by
    rw [mS]
    exact nN (by rw [eK, eK]; unfold sizeLine; omega)
  have s3 : (aL 3 (aR 2 (ae (af (aa 2) (fC (.int 1)) gIx) (ae (af (aa 2) (fC (.int 2)) gIx) ah)) gG)) [.ow (lvD hs), .ow (clD cl), .sh (Dd.mv r a t).D, .no, .no, .no] = .ok .nx [.ow (lvD hs), .ow (clD cl), .sh (Dd.mv r a t).D, .sh (.int (hk r a)), .no, .no] :=
    aS (eG (aq (ak (ai rfl) aj rfl rfl i1) (aq (ak (ai rfl) aj rfl rfl i2) aB)) rfl rfl hat) rfl
  have tm : aA (af (af (aa 2) (fC (.int 0)) gIx) (fC (.str "move")) gEq) [.ow (lvD hs), .ow (clD cl), .sh (Dd.mv r a t).D, .sh (.int (hk r a)), .no, .no] = .ok true [.ow (lvD hs), .ow (clD cl), .sh (Dd.mv r a t).D, .sh (.int (hk r a)), .no, .no] := aK (ak (ak (ai rfl) aj rfl rfl i0) aj rfl rfl m1) rfl
  have p1 := ng (i := 0) (f1 := aa 4) (f2 := af (af (aa 0) (aa 4) gIx) (af (aa 0) (aa 3) gIx) bj) (δ := [.ow (lvD hs), .ow (clD cl), .sh (Dd.mv r a t).D, .sh (.int (hk r a)), .sh (.int (hk (other r) t)), .no]) (es := lvD hs) (ds := lvD hs) (k := hk (other r) t)
    (ak (ak (dA rfl) (ai rfl) rfl rfl g2) (ak (dA rfl) (ai rfl) rfl rfl g1) rfl rfl ga) rfl rfl (ai rfl) rfl rfl (oJ b2.1 (by rw [pb, h32]; omega))
  rw [← mT] at p1
  have p2 := ng (i := 0) (f1 := aa 3) (f2 := bF ah) (δ := [.ow (lvD (hs.set (hk (other r) t).toNat (hAt hs (hk (other r) t) ++ hAt hs (hk r a)))), .ow (clD cl), .sh (Dd.mv r a t).D, .sh (.int (hk r a)), .sh (.int (hk (other r) t)), .no]) (es := lvD (hs.set (hk (other r) t).toNat (hAt hs (hk (other r) t) ++ hAt hs (hk r a)))) (ds := lvD (hs.set (hk (other r) t).toNat (hAt hs (hk (other r) t) ++ hAt hs (hk r a)))) (k := hk r a)
    (eu aB rfl (Nat.le_of_ble_eq_true rfl)) rfl rfl (ai rfl) rfl rfl (oJ b1.1 (by rw [pb, List.length_set, h32]; omega))
  have p2 := p2.trans (by rw [show (D.lst [] : D) = .lst (iD []) from rfl, ← mT])
  have s4 : (ax (aL 4 (af (fC (.int 16)) (af (aa 2) (fC (.int 3)) gIx) bj)) (ax (fIf (aA (af (af (aa 2) (fC (.int 1)) gIx) (fC (.str "b")) gEq)) (aL 4 (af (aa 2) (fC (.int 3)) gIx)) aM) (ax (fP 0 (af (af (aa 0) (aa 4) gIx) (af (aa 0) (aa 3) gIx) bj) (aa 4)) (fP 0 (bF ah) (aa 3))))) [.ow (lvD hs), .ow (clD cl), .sh (Dd.mv r a t).D, .sh (.int (hk r a)), .no, .no] = .ok .nx [.ow (lvD (doF hs cl (.mv r a t)).1), .ow (clD cl), .sh (Dd.mv r a t).D, .sh (.int (hk r a)), .sh (.int (hk (other r) t)), .no] := by
    have hfin := av p1 (az p2)
    by_cases hf' : r = Str.ofString "f"
    · have d : (!decide (r = Str.ofString "f")) = false := by rw [decide_eq_true hf']; rfl
      have ho : hk (other r) t = 16 + t := by
        unfold other hk
        rw [if_pos hf', if_neg (by decide +kernel)]
      have hs4 : (aL 4 (af (fC (.int 16)) (af (aa 2) (fC (.int 3)) gIx) bj)) [.ow (lvD hs), .ow (clD cl), .sh (Dd.mv r a t).D, .sh (.int (hk r a)), .no, .no] = .ok .nx [.ow (lvD hs), .ow (clD cl), .sh (Dd.mv r a t).D, .sh (.int (hk r a)), .sh (.int (hk (other r) t)), .no] := by
        rw [ho]
        exact aS (ak aj (ak (ai rfl) aj rfl rfl i3) rfl rfl iK) rfl
      exact av hs4 (az (av (aJ (aK (ak (ak (ai rfl) aj rfl rfl i1) aj rfl rfl eb) rfl) (aW d bh)) (az hfin)))
    · have d : (!decide (r = Str.ofString "f")) = true := by rw [decide_eq_false hf']; rfl
      have ho : hk (other r) t = t := by
        unfold other hk
        rw [if_neg hf', if_pos rfl]
      have hs4 : (fIf (aA (af (af (aa 2) (fC (.int 1)) gIx) (fC (.str "b")) gEq)) (aL 4 (af (aa 2) (fC (.int 3)) gIx)) aM) [.ow (lvD hs), .ow (clD cl), .sh (Dd.mv r a t).D, .sh (.int (hk r a)), .sh (.int (16 + t)), .no] = .ok .nx [.ow (lvD hs), .ow (clD cl), .sh (Dd.mv r a t).D, .sh (.int (hk r a)), .sh (.int (hk (other r) t)), .no] := by
        rw [ho]
        exact aJ (aK (ak (ak (ai rfl) aj rfl rfl i1) aj rfl rfl eb) rfl) (bS d (aS (ak (ai rfl) aj rfl rfl i3) rfl))
      exact av (aS (ak aj (ak (ai rfl) aj rfl rfl i3) rfl rfl iK) rfl) (az (av hs4 (az hfin)))
  unfold eW nk
  apply mW
  · exact av s3 (az (aJ tm (bS rfl s4)))
  · rfl
end Lw
namespace Lw
open PySem L2 DL
theorem uU (hs : List (List Int)) (cl : List Lp) (h32 : hs.length = 32) (hf : ∀ l ∈ hs, l.length ≤ 1000) (hc : cl.length ≤ 1000) (k r : Str) (a : Int) (y : Str) (hd : (Dd.ky k r a y).ok) : eW [.non, .non, (Dd.ky k r a y).D] [lvD hs, clD cl] = .ok .non [lvD (doF hs cl (.ky k r a y)).1, clD (doF hs cl (.ky k r a y)).2] := by
  obtain ⟨hk', hr, ha0, ha1, hy⟩ := hd
  have b1 := cH (r := r) ha0 ha1
  have i0 : gIx (Dd.ky k r a y).D (.int 0) = some (.val (.str k)) := rfl
  have i1 : gIx (Dd.ky k r a y).D (.int 1) = some (.val (.str r)) := rfl
  have i2 : gIx (Dd.ky k r a y).D (.int 2) = some (.val (.int a)) := rfl
  have i3 : gIx (Dd.ky k r a y).D (.int 3) = some (.val (.str y)) := rfl
  have m1 := tG hk'
  have ef := lz hr
  have hat := pK hr a
  have l1 := gB (hs := hs) (i := hk r a) (by omega)
  have g1 := jT b1.1 l1
  have z1 := hf _ (List.mem_of_getElem? l1)
  have gc : aZ [.lst (clD cl)] = some (.val (.int (cl.length : Int))) := by
    show some (DV.val (.int _)) = _
    rw [iB]
  have zc : (clD cl).length < sizeLine := by rw [iB]; unfold sizeLine; omega
  have hx : ixN (lvD hs).length (hk r a) = some (hk r a).toNat := oJ b1.1 (by rw [pb, h32]; omega)
  have s3 : (aL 3 (aR 2 (ae (af (aa 2) (fC (.int 1)) gIx) (ae (af (aa 2) (fC (.int 2)) gIx) ah)) gG)) [.ow (lvD hs), .ow (clD cl), .sh (Dd.ky k r a y).D, .no, .no, .no] = .ok .nx [.ow (lvD hs), .ow (clD cl), .sh (Dd.ky k r a y).D, .sh (.int (hk r a)), .no, .no] :=
    aS (eG (aq (ak (ai rfl) aj rfl rfl i1) (aq (ak (ai rfl) aj rfl rfl i2) aB)) rfl rfl hat) rfl
  have tm : aA (af (af (aa 2) (fC (.int 0)) gIx) (fC (.str "move")) gEq) [.ow (lvD hs), .ow (clD cl), .sh (Dd.ky k r a y).D, .sh (.int (hk r a)), .no, .no] = .ok false [.ow (lvD hs), .ow (clD cl), .sh (Dd.ky k r a y).D, .sh (.int (hk r a)), .no, .no] := aK (ak (ak (ai rfl) aj rfl rfl i0) aj rfl rfl m1) rfl
  have et : gEq (.str k) (.str (Str.ofString "tuck")) = some (.val (.bl (decide (k = Str.ofString "tuck")))) := by
    rcases hk' with rfl | rfl
    · rw [decide_eq_false (by decide +kernel)]; exact cg (by decide +kernel)
    · rw [decide_eq_true rfl]; exact cg (by decide +kernel)
  have tt : aA (af (af (aa 2) (fC (.int 0)) gIx) (fC (.str "tuck")) gEq) [.ow (lvD hs), .ow (clD cl), .sh (Dd.ky k r a y).D, .sh (.int (hk r a)), .no, .no] = .ok (decide (k = Str.ofString "tuck")) [.ow (lvD hs), .ow (clD cl), .sh (Dd.ky k r a y).D, .sh (.int (hk r a)), .no, .no] := aK (ak (ak (ai rfl) aj rfl rfl i0) aj rfl rfl et) rfl
  have hdo : doF hs cl (.ky k r a y) = if k = Str.ofString "tuck" then (hs.set (hk r a).toNat (hAt hs (hk r a) ++ [(cl.length : Int)]), cl ++ [(y, Str.ofString "t", [])])
      else (hs.set (hk r a).toNat [(cl.length : Int)], cl ++ [(y, if r = Str.ofString "f" then Str.ofString "k" else Str.ofString "p", hAt hs (hk r a))]) := rfl
  rw [hdo]
  unfold eW nk
  by_cases ht : k = Str.ofString "tuck"
  · rw [if_pos ht]
    have ga : bj (.lst (iD (hAt hs (hk r a)))) (.lst [.int (cl.length : Int)]) = some (.own (iD (hAt hs (hk r a) ++ [(cl.length : Int)]))) := by
      rw [mS]
      exact nN (by rw [eK]; show _ + 1 ≤ _; unfold sizeLine; omega)
    have p1 := ng (i := 0) (f1 := aa 3) (f2 := af (af (aa 0) (aa 3) gIx) (bF (ae (fCB (ae (aa 1) ah) aZ) ah)) bj) (δ := [.ow (lvD hs), .ow (clD cl), .sh (Dd.ky k r a y).D, .sh (.int (hk r a)), .no, .no]) (es := lvD hs) (ds := lvD hs) (k := hk r a)
      (ak (ak (dA rfl) (ai rfl) rfl rfl g1) (eu (aq (cy (aq (dA rfl) aB) rfl gc) aB) rfl (Nat.le_of_ble_eq_true rfl)) rfl rfl ga) rfl rfl (ai rfl) rfl rfl hx
    rw [← mT] at p1
    have p2 : (dU 1 (bu (ae (af (aa 2) (fC (.int 3)) gIx) (ae (fC (.str "t")) (ae (bu ah) ah))))) [.ow (lvD (hs.set (hk r a).toNat (hAt hs (hk r a) ++ [(cl.length : Int)]))), .ow (clD cl), .sh (Dd.ky k r a y).D, .sh (.int (hk r a)), .no, .no] = .ok .nx [.ow (lvD (hs.set (hk r a).toNat (hAt hs (hk r a) ++ [(cl.length : Int)]))), .ow (clD (cl ++ [(y, Str.ofString "t", [])])), .sh (Dd.ky k r a y).D, .sh (.int (hk r a)), .no, .no] := by
      rw [oV]
      exact lq (i := 1) (es := clD cl) (ds := clD cl) rfl (d8 (aq (ak (ai rfl) aj rfl rfl i3) (aq aj (aq (d8 aB rfl (Nat.le_of_ble_eq_true rfl)) aB))) rfl (Nat.le_of_ble_eq_true rfl)) rfl rfl zc
    apply mW
    · exact av s3 (az (aJ tm (aW rfl (aJ tt (bS (decide_eq_true ht) (av p1 (az p2)))))))
    · rfl
  · rw [if_neg ht]
    have gt : jJ [.lst (iD (hAt hs (hk r a)))] = some (.val (.tup (iD (hAt hs (hk r a))))) := rfl
    have fin : ∀ w : Str, (ax (dU 1 (bu (ae (af (aa 2) (fC (.int 3)) gIx) (ae (aa 5) (ae (fCB (ae (af (aa 0) (aa 3) gIx) ah) jJ) ah)))))
        (fP 0 (bF (ae (af (fCB (ae (aa 1) ah) aZ) (fC (.int 1)) cV) ah)) (aa 3))) [.ow (lvD hs), .ow (clD cl), .sh (Dd.ky k r a y).D, .sh (.int (hk r a)), .no, .sh (.str w)] = .ok .nx [.ow (lvD (hs.set (hk r a).toNat [(cl.length : Int)])), .ow (clD (cl ++ [(y, w, hAt hs (hk r a))])), .sh (Dd.ky k r a y).D, .sh (.int (hk r a)), .no, .sh (.str w)] := by
      intro w
      have a1 : (dU 1 (bu (ae (af (aa 2) (fC (.int 3)) gIx) (ae (aa 5) (ae (fCB (ae (af (aa 0) (aa 3) gIx) ah) jJ) ah))))) [.ow (lvD hs), .ow (clD cl), .sh (Dd.ky k r a y).D, .sh (.int (hk r a)), .no, .sh (.str w)] = .ok .nx [.ow (lvD hs), .ow (clD (cl ++ [(y, w, hAt hs (hk r a))])), .sh (Dd.ky k r a y).D, .sh (.int (hk r a)), .no, .sh (.str w)] := by
        rw [oV]
        exact lq (i := 1) (es := clD cl) (ds := clD cl) rfl (d8 (aq (ak (ai rfl) aj rfl rfl i3) (aq (ai rfl) (aq (cy (aq (ak (dA rfl) (ai rfl) rfl rfl g1) aB) rfl gt) aB))) rfl (Nat.le_of_ble_eq_true rfl)) rfl rfl zc
      have g9 : aZ [.lst (clD (cl ++ [(y, w, hAt hs (hk r a))]))] = some (.val (.int ((cl.length : Int) + 1))) := by
        show some (DV.val (.int _)) = _
        rw [iB, List.length_append]; rfl
      have g10 : cV (.int ((cl.length : Int) + 1)) (.int 1) = some (.val (.int (cl.length : Int))) := by
        show some (DV.val (.int _)) = _
        rw [Int.add_sub_cancel]
      have p1 := ng (i := 0) (f1 := aa 3) (f2 := bF (ae (af (fCB (ae (aa 1) ah) aZ) (fC (.int 1)) cV) ah)) (δ := [.ow (lvD hs), .ow (clD (cl ++ [(y, w, hAt hs (hk r a))])), .sh (Dd.ky k r a y).D, .sh (.int (hk r a)), .no, .sh (.str w)]) (es := lvD hs) (ds := lvD hs) (k := hk r a)
        (eu (aq (ak (cy (aq (dA rfl) aB) rfl g9) aj rfl rfl g10) aB) rfl (Nat.le_of_ble_eq_true rfl)) rfl rfl (ai rfl) rfl rfl hx
      refine av a1 (az ?_)
      rw [mT]
      exact p1
    by_cases hf' : r = Str.ofString "f"
    · have d : decide (r = Str.ofString "f") = true := decide_eq_true hf'
      rw [if_pos hf']
      apply mW
      · exact av s3 (az (aJ tm (aW rfl (aJ tt (aW (decide_eq_false ht) (av (aS aj rfl) (az (av (aJ (aK (ak (ak (ai rfl) aj rfl rfl i1) aj rfl rfl ef) rfl) (bS d (aS aj rfl))) (az (fin _))))))))))
      · rfl
    · have d : decide (r = Str.ofString "f") = false := decide_eq_false hf'
      rw [if_neg hf']
      apply mW
      · exact av s3 (az (aJ tm (aW rfl (aJ tt (aW (decide_eq_false ht) (av (aS aj rfl) (az (av (aJ (aK (ak (ak (ai rfl) aj rfl rfl i1) aj rfl rfl ef) rfl) (aW d bh)) (az (fin _))))))))))
      · rfl
theorem vl (hs : List (List Int)) (cl : List Lp) (h32 : hs.length = 32) (hf : ∀ l ∈ hs, l.length ≤ 1000) (hc : cl.length ≤ 1000) (d : Dd) (hd : d.ok) : eW [.non, .non, d.D] [lvD hs, clD cl] = .ok .non [lvD (doF hs cl d).1, clD (doF hs cl d).2] := by
  cases d with
  | ky k r a y => exact uU hs cl h32 hf hc k r a y hd
  | mv r a t => exact yT hs cl h32 hf r a t hd
theorem ve (cell spread : Int) (hs : 0 < spread) : ∃ d : Dd, d.ok ∧ ik [.int cell, .int spread] = .ok d.D := by
  have c1 := iV cell 1
  have c2 := iV cell 2
  have c3 := iV cell 3
  have c4 := iV cell 4
  have c5 := iV cell 5
  have c6 := iV cell 6
  obtain ⟨r, gr, hr⟩ := xF (bN cell 1 / 7)
  obtain ⟨y, gy, hy⟩ := Av (bN cell 4 / 7)
  have gsp : bD (.int (bN cell 2 / 7)) (.int spread) = some (.val (.int (bN cell 2 / 7 % spread))) := gu (decide_eq_true hs)
  have q3 : bU lt (.int (bN cell 3 / 7 % 10)) (.int 3) = some (.val (.bl (decide (bN cell 3 / 7 % 10 < 3)))) := rfl
  have q7 : bU lt (.int (bN cell 3 / 7 % 10)) (.int 7) = some (.val (.bl (decide (bN cell 3 / 7 % 10 < 7)))) := rfl
  have q9 : gEq (.int (bN cell 3 / 7 % 10)) (.int 9) = some (.val (.bl (decide (bN cell 3 / 7 % 10 = 9)))) := cg rfl
  have gmin : ∀ t : Int, mE [.int 15, .int t] = some (.val (.int (gv 15 t))) := fun t => rfl
  have gmax : ∀ t : Int, mZ [.int 0, .int t] = some (.val (.int (imax 0 t))) := fun t => rfl
  generalize hA : (cell % 16 + bN cell 2 / 7 % spread) % 16 = A
  have gA : bD (.int (cell % 16 + bN cell 2 / 7 % spread)) (.int 16) = some (.val (.int A)) := by rw [← hA]; exact gu (by decide)
  have hA0 : 0 ≤ A ∧ A ≤ 15 := by omega
  unfold ik rf
  by_cases h3 : bN cell 3 / 7 % 10 < 3
  · have d3 : decide (bN cell 3 / 7 % 10 < 3) = true := decide_eq_true h3
    refine ⟨.ky (Str.ofString "knit") r A y, ⟨.inl rfl, hr, hA0.1, hA0.2, hy⟩, ?_⟩
    change _ = Ro.ok (.tup [.str "knit", .str r, .int A, .str y])
    walk_at "ev"
  · have d3 : decide (bN cell 3 / 7 % 10 < 3) = false := decide_eq_false h3
    by_cases h7 : bN cell 3 / 7 % 10 < 7
    · have d7 : decide (bN cell 3 / 7 % 10 < 7) = true := decide_eq_true h7
      refine ⟨.ky (Str.ofString "tuck") r A y, ⟨.inr rfl, hr, hA0.1, hA0.2, hy⟩, ?_⟩
      change _ = Ro.ok (.tup [.str "tuck", .str r, .int A, .str y])
      walk_at "ev"
    · have d7 : decide (bN cell 3 / 7 % 10 < 7) = false := decide_eq_false h7
      by_cases h9 : bN cell 3 / 7 % 10 = 9
      · have d9 : decide (bN cell 3 / 7 % 10 = 9) = true := decide_eq_true h9
        refine ⟨.mv r A (imax 0 (gv 15 (bN cell 6 / 7 % 16))), ⟨hr, hA0.1, hA0.2, (me _).1, (me _).2⟩, ?_⟩
        change _ = Ro.ok (.tup [.str "move", .str r, .int A, .int (imax 0 (gv 15 (bN cell 6 / 7 % 16)))])
        walk_at "ev"
      · have d9 : decide (bN cell 3 / 7 % 10 = 9) = false := decide_eq_false h9
        refine ⟨.mv r A (imax 0 (gv 15 (A + bN cell 5 / 7 % 5 - 2))), ⟨hr, hA0.1, hA0.2, (me _).1, (me _).2⟩, ?_⟩
        change _ = Ro.ok (.tup [.str "move", .str r, .int A, .int (imax 0 (gv 15 (A + bN cell 5 / 7 % 5 - 2)))])
        walk_at "ev"
end Lw
namespace Lw
open PySem L2 DL
inductive Bed : List (List Int) → List Lp → Nat → Prop
  | start : Bed (List.replicate 32 []) [] 0
  | step {hs : List (List Int)} {cl : List Lp} {n : Nat} {d : Dd} : Bed hs cl n → d.ok → cj hs d = none → Bed (doF hs cl d).1 (doF hs cl d).2 (n + 1)
  | skip {hs : List (List Int)} {cl : List Lp} {n : Nat} : Bed hs cl n → Bed hs cl (n + 1)
theorem fZ {hs : List (List Int)} {i : Int} (h : i.toNat < hs.length) : hAt hs i ∈ hs := List.mem_of_getElem? (gB h)
theorem Bed.size {hs : List (List Int)} {cl : List Lp} {n : Nat} (h : Bed hs cl n) : hs.length = 32 ∧ (∀ l ∈ hs, l.length ≤ 4) ∧ cl.length ≤ n := by
  induction h with
  | start => exact ⟨List.length_replicate, fun l hl => by rw [List.eq_of_mem_replicate hl]; exact Nat.zero_le _, Nat.le_refl _⟩
  | skip h ih => exact ⟨ih.1, ih.2.1, by omega⟩
  | @step hs cl n d h hd hw ih =>
    obtain ⟨i1, i2, i3⟩ := ih
    cases d with
    | mv r a t =>
      obtain ⟨hr, ha0, ha1, ht0, ht1⟩ := hd
      have b2 := cH (r := other r) ht0 ht1
      have hw' : (if a - t > 2 ∨ t - a > 2 then some (Str.ofString "far") else if hAt hs (hk r a) = [] then some (Str.ofString "empty") else if (hAt hs (hk r a)).length + (hAt hs (hk (other r) t)).length > 4 then some (Str.ofString "full") else none) = none := hw
      have h4 : (hAt hs (hk r a)).length + (hAt hs (hk (other r) t)).length ≤ 4 := by
        split at hw'
        · cases hw'
        · split at hw'
          · cases hw'
          · split at hw'
            · cases hw'
            · omega
      refine ⟨?_, fun l hl => ?_, by show cl.length ≤ n + 1; omega⟩
      · show ((hs.set _ _).set _ _).length = 32
        rw [List.length_set, List.length_set]; exact i1
      · rcases List.mem_or_eq_of_mem_set (show l ∈ (hs.set _ _).set _ _ from hl) with z | z
        · rcases List.mem_or_eq_of_mem_set z with z | z
          · exact i2 l z
          · rw [z, List.length_append]; omega
        · rw [z]; exact Nat.zero_le _
    | ky k r a y =>
      obtain ⟨hk', hr, ha0, ha1, hy⟩ := hd
      have b1 := cH (r := r) ha0 ha1
      have hw' : (if k = Str.ofString "knit" ∧ hAt hs (hk r a) = [] then some (Str.ofString "empty") else if k = Str.ofString "tuck" ∧ (hAt hs (hk r a)).length = 4 then some (Str.ofString "full") else none) = none := hw
      have l4 := i2 _ (fZ (hs := hs) (i := hk r a) (by omega))
      have hdo : doF hs cl (.ky k r a y) = if k = Str.ofString "tuck" then (hs.set (hk r a).toNat (hAt hs (hk r a) ++ [(cl.length : Int)]), cl ++ [(y, Str.ofString "t", [])])
        else (hs.set (hk r a).toNat [(cl.length : Int)], cl ++ [(y, if r = Str.ofString "f" then Str.ofString "k" else Str.ofString "p", hAt hs (hk r a))]) := rfl
      rw [hdo]
      by_cases ht : k = Str.ofString "tuck"
      · have h4 : (hAt hs (hk r a)).length ≠ 4 := fun z => by
          split at hw'
          · cases hw'
          · rw [if_pos ⟨ht, z⟩] at hw'; cases hw'
        rw [if_pos ht]
        refine ⟨by show (hs.set _ _).length = 32; rw [List.length_set]; exact i1, fun l hl => ?_, by show (cl ++ [_]).length ≤ n + 1; rw [List.length_append, List.length_singleton]; omega⟩
        rcases List.mem_or_eq_of_mem_set (show l ∈ hs.set _ _ from hl) with z | z
        · exact i2 l z
        · rw [z, List.length_append, List.length_singleton]; omega
      · rw [if_neg ht]
        refine ⟨by show (hs.set _ _).length = 32; rw [List.length_set]; exact i1, fun l hl => ?_, by show (cl ++ [_]).length ≤ n + 1; rw [List.length_append, List.length_singleton]; omega⟩
        rcases List.mem_or_eq_of_mem_set (show l ∈ hs.set _ _ from hl) with z | z
        · exact i2 l z
        · rw [z]; show 1 ≤ 4; omega
end Lw
namespace DL
open PySem L2
section
variable {δ δ1 δ2 : DSt} {i n : Nat} {f f1 f2 : DM DV} {fa : DM (List DV)} {a a1 a2 : DV} {as : List DV} {ds : List D} {b : Bd} {own : Bool} {d : D} {r : Str} {k : Int} {ks : List (Str × Int)} {vs ls bs : List D}
theorem eD {M : List D → Ro} {Z : Rs DV} (h : fa δ = .ok as δ) (e : bY as = some ds) (hb : bR δ i = some (b, own)) (hn : ds.length + 1 = n) (hr : roR own (M (b.d :: ds)) δ = Z) : aX i n fa M δ = Z := by
  unfold aX DM.bd
  simp only [hb, Option.isSome_some, if_true, h, e, hn]
  exact hr
theorem dt {M : Bd → List D → Rw} {Z : Rs DV} (h : fa δ = .ok as δ) (e : bY as = some ds) (hb : bR δ i = some (b, own)) (hn : ds.length + 1 = n) (hr : rwW i own (M b ds) δ = Z) : bz i n fa M δ = Z := by
  unfold bz DM.bd
  simp only [hb, Option.isSome_some, if_true, h, e, hn]
  exact hr
theorem rp {M : Bd → List D → Rw} {Z : Rs (Sum Str DV)} (h : fa δ = .ok as δ) (e : bY as = some ds) (hb : bR δ i = some (b, own)) (hn : ds.length + 1 = n) (hr : rwX i own (M b ds) δ = Z) : fS i n fa M δ = Z := by
  unfold fS DM.bd
  simp only [hb, Option.isSome_some, if_true, h, e, hn]
  exact hr
theorem zw (h : f δ = .ok a δ) (e : res δ (norm a) = some (.key r k)) (hb : bR δ i = some (b, own)) : kX i f δ = .ok (.val ((bX b.ks b.vs (r, k)).getD (.tup []))) δ := by
  unfold kX fN DM.bd DM.ret
  simp only [hb, Option.isSome_some, if_true, h, e]
theorem mB (h2 : f2 δ = .ok a2 δ) (e2 : norm a2 = .val d) (hb : δ[i]? = some (.ob ks vs ls bs)) (h1 : f1 δ = .ok a1 δ) (e1 : res δ (norm a1) = some (.key r k)) (hz : ks.length < sizeLine) : ix i f2 f1 δ = .ok .nx (δ.set i (.ob (bE ks (r, k)) (cu ks vs (r, k) d) ls bs)) := by
  unfold ix fY fN DM.bd DM.ret
  simp only [h2, e2, hb, if_true, h1, e1, hz]
theorem zJ (hb : δ[i]? = some (.ob ks vs ls bs)) (h : f δ = .ok a δ) (e : norm a = .val d) (hz : ls.length < sizeLine) : kj i f δ = .ok .nx (δ.set i (.ob ks vs (ls ++ [d]) bs)) := by
  unfold kj fY fN DM.bd DM.ret
  simp only [hb, if_true, h, e, hz]
theorem vQ (hb : δ[i]? = some (.ob ks vs ls bs)) (h : f δ = .ok a δ) (e : norm a = .val d) (hz : bs.length < sizeLine) : kq i f δ = .ok .nx (δ.set i (.ob ks vs ls (bs ++ [d]))) := by
  unfold kq fY fN DM.bd DM.ret
  simp only [hb, if_true, h, e, hz]
theorem dS (h : fa δ = .ok as δ) (e : bY as = some [.str r, .int k]) : gn fa δ = .ok (.val (.key r k)) δ := by
  unfold gn DM.bd
  simp only [h, e]
theorem kQ (h : f δ = .ok a δ) (e : res δ (norm a) = some (.tup ds)) : kF f δ = .ok (!ds.isEmpty) δ := by
  unfold kF fN DM.bd DM.ret
  simp only [h, e]
theorem yO (hb : δ[i]? = some (.ob ks vs ls bs)) (h : f (jZ i ⟨ks, vs, ls, bs⟩ δ) = .ok (.own ds) δ1) (hf : cF ds = true) : j0 i f δ = .ok (.own ds) δ := by
  unfold j0
  simp only [hb, h, hf, if_true]
theorem gZ {c : Str} {S1 : DM Fl} : mP (.er c) S1 = .er c := rfl
theorem lC {f : DM DV} (h : f δ = .ok a δ1) : gx f δ = .ok .nx δ1 := by unfold gx DM.bd DM.ret; simp only [h]
variable {body : DM Fl} {b' : Bd} {c : Str}
theorem fL (h : body (b.sl :: cC n ds) = .ok (.rt d) δ1) (e : δ1[(0 : Nat)]? = some b'.sl) : cY body n b ds = .ok d b' := by
  unfold cY cU
  simp only [h, e]
theorem yY (h : body (b.sl :: cC n ds) = .ok .nx δ1) (e : δ1[(0 : Nat)]? = some b'.sl) : cY body n b ds = .ok .non b' := by
  unfold cY cU
  simp only [h, e]
theorem iQ (h : cY body n b ds = .ok d b') : fK body n b ds = .ok d b' := by unfold fK; rw [h]
theorem gE (h : body (b.sl :: cC n ds) = .er c) (h2 : body (.sh b.d :: cC n ds) = .er c) : fK body n b ds = .er c := by
  unfold fK cY
  simp only [h, h2]
end
end DL
namespace Lw
open PySem L2 DL
noncomputable abbrev tI (l : List Int) : D := .tup (iD l)
noncomputable abbrev kD (q : Str × Int) : D := .key q.1 q.2
noncomputable def lk (b : Bd) (q : Str × Int) : D := (bX b.ks b.vs q).getD (.tup [])
theorem kJ : ∀ l : List Int, cF (iD l) = true
  | [] => rfl
  | _ :: l => by change (true && cF (iD l)) = true; rw [kJ l]; rfl
theorem d6 (l : List Int) : flat (tI l) = true := kJ l
theorem su (b : Bd) (q : Str × Int) : cn [b.d, kD q] = .ok (lk b q) := by
  unfold cn sO lk
  exact kT (bQ (zw (own := false) (b := b) (r := q.1) (k := q.2) (ai rfl) rfl rfl) cN)
theorem la {δ : DSt} {i j : Nat} {b : Bd} {own : Bool} {q : Str × Int} (hb : bR δ i = some (b, own)) (hj : δ[j]? = some (.sh (kD q))) (hf : flat (lk b q) = true) : aX i 2 (ae (aa j) ah) cn δ = .ok (.val (lk b q)) δ := by
  refine eD (aq (ai hj) aB) rfl hb rfl ?_
  change roR own (cn [b.d, kD q]) δ = _
  rw [su]
  unfold roR
  simp only [hf, Bool.or_true, if_true]
noncomputable def stp (b : Bd) (qs : List (Str × Int)) : List D := qs.map fun q => .tup [kD q, lk b q]
theorem A6 (b : Bd) (qs : List (Str × Int)) (hq : qs.length ≤ 2) (hf : ∀ q ∈ qs, flat (lk b q) = true) : bK (bw 0) (.ret true) (bu (ae (aa 0) (ae (aX 1 2 (ae (aa 0) ah) cn) ah))) (qs.map kD) [.no, .sh b.d] [] = some (stp b qs) := by
  refine (comp_map (g := fun d => match d with | .key r k => .tup [.key r k, lk b (r, k)] | d => d) _ .no (by rw [List.length_map]; unfold sizeLine; omega) fun d hd => ?_).trans (by unfold stp; rw [List.map_map]; rfl)
  obtain ⟨q, hq', rfl⟩ := List.mem_map.mp hd
  have h : (bu (ae (aa 0) (ae (aX 1 2 (ae (aa 0) ah) cn) ah))) [.sh (kD q), .sh b.d] = .ok (.val (.tup [kD q, lk b q])) [.sh (kD q), .sh b.d] :=
    d8 (aq (ai rfl) (aq (la (own := false) (b := b) rfl rfl (hf q hq')) aB)) rfl (by change 2 ≤ sizeLine; unfold sizeLine; omega)
  unfold fN DM.bd
  rw [h]
  rfl
theorem pZ (b : Bd) : ∀ (qs : List (Str × Int)), (∀ q ∈ qs, flat (lk b q) = true) → cF (stp b qs) = true
  | [], _ => rfl
  | q :: qs, h => by
    change ((true && (flat (lk b q) && true)) && cF (stp b qs)) = true
    rw [h q List.mem_cons_self, pZ b qs fun x hx => h x (List.mem_cons_of_mem _ hx)]
    rfl
theorem um (b : Bd) (dd : D) (qs : List (Str × Int)) (hq : qs.length ≤ 2) (hf : ∀ q ∈ qs, flat (lk b q) = true) (hz : b.bs.length < sizeLine) : cR b [dd, .lst (qs.map kD)] = .ok .non { b with bs := b.bs ++ [.tup [dd, .lst (stp b qs)]] } := by
  unfold cR rB
  refine yY (δ1 := [.ob b.ks b.vs b.as (b.bs ++ [.tup [dd, .lst (stp b qs)]]), .sh dd, .sh (.lst (qs.map kD))]) ?_ rfl
  exact vQ (i := 0) rfl (d8 (aq (ai rfl) (aq (yO (i := 0) rfl (kh (mV (ai rfl) rfl rfl) (A6 b qs hq hf)) (pZ b qs hf)) aB)) rfl (by change 2 ≤ sizeLine; unfold sizeLine; omega)) rfl hz
theorem qv (b : Bd) (y w h : D) (hz : b.as.length < sizeLine) : dZ b [y, w, h] = .ok (.int (b.as.length : Int)) { b with as := b.as ++ [.tup [y, w, h]] } := by
  unfold dZ qm
  refine fL (δ1 := [.ob b.ks b.vs (b.as ++ [.tup [y, w, h]]) b.bs, .sh y, .sh w, .sh h]) ?_ rfl
  have e : ((b.as ++ [D.tup [y, w, h]]).length : Int) - 1 = (b.as.length : Int) := by rw [List.length_append]; change ((b.as.length + 1 : Nat) : Int) - 1 = _; omega
  refine av (zJ (i := 0) rfl (d8 (aq (ai rfl) (aq (ai rfl) (aq (ai rfl) aB))) rfl (by change 3 ≤ sizeLine; unfold sizeLine; omega)) rfl hz) (az (bQ (ak (cy (aq (rfl : fR 0 1 _ = .ok (.fld 0 1) _) aB) rfl rfl) aj rfl rfl rfl) ?_))
  change Rs.ok (Fl.rt (.int (((b.as ++ [D.tup [y, w, h]]).length : Int) - 1))) _ = _
  rw [e]
  rfl
end Lw
namespace Lw
open PySem L2 DL
theorem wX : ∀ n : Nat, n < 16 → okI (.int (n : Int)) = true := by decide +kernel
theorem oh {a : Int} (h0 : 0 ≤ a) (h1 : a ≤ 15) : okI (.int a) = true := by
  have := wX a.toNat (by omega)
  rwa [Int.toNat_of_nonneg h0] at this
theorem qh {r : Str} (h : cK r) : okI (.str r) = true := by rcases h with rfl | rfl <;> decide +kernel
theorem yr : ∀ y ∈ m6, okI (.str y) = true := by
  have : (m6.all fun y => okI (.str y)) = true := by decide +kernel
  exact fun y hy => List.all_eq_true.mp this y hy
theorem zM : okI (.str (Str.ofString "knit")) = true := by decide +kernel
theorem yg : okI (.str (Str.ofString "tuck")) = true := by decide +kernel
theorem vw : okI (.str (Str.ofString "move")) = true := by decide +kernel
theorem wg : ∀ (d : Dd), d.ok → ∃ ds, d.D = .tup ds ∧ (decide (ds.length ≤ 10) && ds.all okI) = true
  | .ky k r a y, ⟨hk, hr, h0, h1, hy⟩ => ⟨_, rfl, by
    have : okI (.str k) = true := by rcases hk with rfl | rfl; exact zM; exact yg
    simp only [List.all_cons, List.all_nil, this, qh hr, oh h0 h1, yr y hy, Bool.and_true, List.length_cons, List.length_nil]
    rfl⟩
  | .mv r a t, ⟨hr, h0, h1, h2, h3⟩ => ⟨_, rfl, by
    simp only [List.all_cons, List.all_nil, vw, qh hr, oh h0 h1, oh h2 h3, Bool.and_true, List.length_cons, List.length_nil]
    rfl⟩
theorem lj {d : Dd} (h : d.ok) {δ : DSt} (hs : δ[1]? = some (.sh d.D)) : okT 1 δ = true := by
  obtain ⟨ds, e, q⟩ := wg d h
  unfold okT
  rw [hs, e]
  exact q
theorem lT (l : List Int) : aZ [tI l] = some (.val (.int (l.length : Int))) := by
  change some (DV.val (.int ((iD l).length : Int))) = _
  rw [eK]
noncomputable abbrev dT (r : Str) (a : Int) (y : Str) : Dd := .ky (Str.ofString "tuck") r a y
noncomputable abbrev dK (r : Str) (a : Int) (y : Str) : Dd := .ky (Str.ofString "knit") r a y
theorem rN (b : Bd) (dd : D) (r : Str) (a : Int) (l : List Int) (hl : lk b (r, a) = tI l) (hz : b.bs.length < sizeLine) : cR b [dd, .lst [.key r a]] = .ok .non { b with bs := b.bs ++ [.tup [dd, .lst [.tup [.key r a, tI l]]]] } := by
  have h := um b dd [(r, a)] (by change 1 ≤ 2; omega) (fun q hq => by rw [List.mem_singleton.mp hq, hl]; exact d6 l) hz
  unfold stp at h
  rw [List.map_cons, List.map_nil, List.map_cons, List.map_nil, hl] at h
  exact h
theorem wN (b : Bd) (dd : D) (r r' : Str) (a a' : Int) (l l' : List Int) (hl : lk b (r, a) = tI l) (hl' : lk b (r', a') = tI l') (hz : b.bs.length < sizeLine) : cR b [dd, .lst [.key r a, .key r' a']] = .ok .non { b with bs := b.bs ++ [.tup [dd, .lst [.tup [.key r a, tI l], .tup [.key r' a', tI l']]]] } := by
  have h := um b dd [(r, a), (r', a')] (by change 2 ≤ 2; omega) (fun q hq => by
    rcases List.mem_cons.mp hq with rfl | hq
    · rw [hl]; exact d6 l
    · rw [List.mem_singleton.mp hq, hl']; exact d6 l') hz
  unfold stp at h
  rw [List.map_cons, List.map_cons, List.map_nil, List.map_cons, List.map_cons, List.map_nil, hl, hl'] at h
  exact h
section
variable {s : Sl} {b : Bd} {own : Bool} {r : Str} {a : Int} {y : Str} {l : List Int}
theorem rV (hs : ∀ rest, bR (s :: rest) 0 = some (b, own)) (hd : (dT r a y).ok) (hl : lk b (r, a) = tI l) (h4 : 4 ≤ l.length) : mr (s :: cC 5 [(dT r a y).D]) = .er "Overfull" := by
  have hf : flat (lk b (r, a)) = true := by rw [hl]; exact d6 l
  unfold mr
  refine av (R1 := .ok .nx [s, .sh (dT r a y).D, .sh (.key r a), .no, .no]) (aS (dS (aq (ak (ai rfl) aj rfl rfl rfl) (aq (ak (ai rfl) aj rfl rfl rfl) aB)) rfl) rfl) (az ?_)
  refine av (R1 := .ok .nx [s, .sh (dT r a y).D, .sh (.key r a), .sh (tI l), .no]) ((aS (la (q := (r, a)) (hs _) rfl hf) rfl).trans (by rw [hl]; rfl)) (az ?_)
  refine av (aJ (aK (ak (cy (aq (ai rfl) aB) rfl (lT l)) aj rfl rfl rfl) rfl) (bS (decide_eq_true (by omega)) (kz ?_))) gZ
  change (true && (okT 1 _ && true)) = true
  rw [lj hd rfl]
  rfl
theorem sj (hs : ∀ rest, bR (s :: rest) 0 = some (b, own)) (hd : (dK r a y).ok) (hl : lk b (r, a) = tI []) : md (s :: cC 5 [(dK r a y).D]) = .er "Empty" := by
  have hf : flat (lk b (r, a)) = true := by rw [hl]; exact d6 []
  unfold md
  refine av (R1 := .ok .nx [s, .sh (dK r a y).D, .sh (.key r a), .no, .no]) (aS (dS (aq (ak (ai rfl) aj rfl rfl rfl) (aq (ak (ai rfl) aj rfl rfl rfl) aB)) rfl) rfl) (az ?_)
  refine av (R1 := .ok .nx [s, .sh (dK r a y).D, .sh (.key r a), .sh (tI []), .no]) ((aS (la (q := (r, a)) (hs _) rfl hf) rfl).trans (by rw [hl]; rfl)) (az ?_)
  refine av (aJ (eX (kQ (ds := []) (ai rfl) rfl)) (bS rfl (kz ?_))) gZ
  change (true && (okT 1 _ && true)) = true
  rw [lj hd rfl]
  rfl
theorem eI (b : Bd) : ∀ rest, bR (b.sl :: rest) 0 = some (b, true) := fun _ => rfl
theorem iM (b : Bd) : ∀ rest, bR (.sh b.d :: rest) 0 = some (b, false) := fun _ => rfl
theorem AE (hl : lk b (r, a) = tI l) (h4 : l.length < 4) (hk : b.ks.length < 10000) (ha : b.as.length < 10000) (hb : b.bs.length < 10000) : iH b [(dT r a y).D] =
    .ok (.int (b.as.length : Int)) ⟨bE b.ks (r, a), cu b.ks b.vs (r, a) (tI (l ++ [(b.as.length : Int)])), b.as ++ [lpD (y, "t", [])], b.bs ++ [.tup [(dT r a y).D, .lst [.tup [.key r a, tI l]]]]⟩ := by
  have hf : flat (lk b (r, a)) = true := by rw [hl]; exact d6 l
  have hz : ∀ {n : Nat}, n < 10000 → n < sizeLine := fun h => by unfold sizeLine; omega
  refine iQ ?_
  unfold mr
  refine fL (δ1 := [.ob (bE b.ks (r, a)) (cu b.ks b.vs (r, a) (tI (l ++ [(b.as.length : Int)]))) (b.as ++ [lpD (y, "t", [])]) (b.bs ++ [.tup [(dT r a y).D, .lst [.tup [.key r a, tI l]]]]), .sh (dT r a y).D, .sh (.key r a), .sh (tI l), .sh (.int (b.as.length : Int))]) ?_ rfl
  refine av (R1 := .ok .nx [b.sl, .sh (dT r a y).D, .sh (.key r a), .no, .no]) (aS (dS (aq (ak (ai rfl) aj rfl rfl rfl) (aq (ak (ai rfl) aj rfl rfl rfl) aB)) rfl) rfl) (az ?_)
  refine av (R1 := .ok .nx [b.sl, .sh (dT r a y).D, .sh (.key r a), .sh (tI l), .no]) ((aS (la (q := (r, a)) (eI b _) rfl hf) rfl).trans (by rw [hl]; rfl)) (az ?_)
  refine av (aJ (aK (ak (cy (aq (ai rfl) aB) rfl (lT l)) aj rfl rfl rfl) rfl) (aW (decide_eq_false (by omega)) bh)) (az ?_)
  have k1 : bz 0 3 (ae (aa 1) (ae (bF (ae (aa 2) ah)) ah)) cR [b.sl, .sh (dT r a y).D, .sh (.key r a), .sh (tI l), .no] = .ok (.val .non) [.ob b.ks b.vs b.as (b.bs ++ [.tup [(dT r a y).D, .lst [.tup [.key r a, tI l]]]]), .sh (dT r a y).D, .sh (.key r a), .sh (tI l), .no] :=
    dt (b := b) (own := true) (aq (ai rfl) (aq (eu (aq (ai rfl) aB) rfl (by change 1 ≤ sizeLine; unfold sizeLine; omega)) aB)) rfl rfl rfl (by
      change rwW 0 true (cR b [(dT r a y).D, .lst [.key r a]]) _ = _
      rw [rN b _ r a l hl (hz hb)]
      rfl)
  have k2 : bz 0 4 (ae (af (aa 1) (fC (.int 3)) gIx) (ae (fC (.str "t")) (ae (bu ah) ah))) dZ [.ob b.ks b.vs b.as (b.bs ++ [.tup [(dT r a y).D, .lst [.tup [.key r a, tI l]]]]), .sh (dT r a y).D, .sh (.key r a), .sh (tI l), .no] = .ok (.val (.int (b.as.length : Int))) [.ob b.ks b.vs (b.as ++ [lpD (y, "t", [])]) (b.bs ++ [.tup [(dT r a y).D, .lst [.tup [.key r a, tI l]]]]), .sh (dT r a y).D, .sh (.key r a), .sh (tI l), .no] :=
    dt (b := ⟨b.ks, b.vs, b.as, (b.bs ++ [.tup [(dT r a y).D, .lst [.tup [.key r a, tI l]]]])⟩) (own := true) (aq (ak (ai rfl) aj rfl rfl rfl) (aq aj (aq (d8 aB rfl (by change 0 ≤ sizeLine; unfold sizeLine; omega)) aB))) rfl rfl rfl (by
      change rwW 0 true (dZ ⟨b.ks, b.vs, b.as, (b.bs ++ [.tup [(dT r a y).D, .lst [.tup [.key r a, tI l]]]])⟩ [.str y, .str "t", .tup []]) _ = _
      have nl := qv (⟨b.ks, b.vs, b.as, (b.bs ++ [.tup [(dT r a y).D, .lst [.tup [.key r a, tI l]]]])⟩ : Bd) (.str y) (.str "t") (.tup []) (hz ha)
      rw [nl]
      rfl)
  have k3 : af (aa 3) (bu (ae (aa 4) ah)) jt [.ob b.ks b.vs (b.as ++ [lpD (y, "t", [])]) (b.bs ++ [.tup [(dT r a y).D, .lst [.tup [.key r a, tI l]]]]), .sh (dT r a y).D, .sh (.key r a), .sh (tI l), .sh (.int (b.as.length : Int))] = .ok (.val (tI (l ++ [(b.as.length : Int)]))) [.ob b.ks b.vs (b.as ++ [lpD (y, "t", [])]) (b.bs ++ [.tup [(dT r a y).D, .lst [.tup [.key r a, tI l]]]]), .sh (dT r a y).D, .sh (.key r a), .sh (tI l), .sh (.int (b.as.length : Int))] :=
    ak (ai rfl) (d8 (aq (ai rfl) aB) rfl (by change 1 ≤ sizeLine; unfold sizeLine; omega)) rfl rfl (by
      change (if (iD l).length + 1 ≤ sizeLine then some (DV.val (.tup (iD l ++ [.int (b.as.length : Int)]))) else none) = some (.val (tI (l ++ [(b.as.length : Int)])))
      rw [if_pos (by rw [eK]; unfold sizeLine; omega), tI, mS]
      rfl)
  refine av (lC k1) (az (av (aS k2 rfl) (az (av (mB (i := 0) k3 rfl rfl (ai rfl) rfl (hz hk)) (az ?_)))))
  exact bQ (ai rfl) cN
theorem Be {w : Str} (hw : gS j1 (.str r) = some (.val (.str w))) (hl : lk b (r, a) = tI l) (h0 : l ≠ []) (hk : b.ks.length < 10000) (ha : b.as.length < 10000) (hb : b.bs.length < 10000) : gY b [(dK r a y).D] =
    .ok (.int (b.as.length : Int)) ⟨bE b.ks (r, a), cu b.ks b.vs (r, a) (tI [(b.as.length : Int)]), b.as ++ [lpD (y, w, l)], b.bs ++ [.tup [(dK r a y).D, .lst [.tup [.key r a, tI l]]]]⟩ := by
  have hf : flat (lk b (r, a)) = true := by rw [hl]; exact d6 l
  have hz : ∀ {n : Nat}, n < 10000 → n < sizeLine := fun h => by unfold sizeLine; omega
  have he : (iD l).isEmpty = false := by cases l with | nil => exact absurd rfl h0 | cons _ _ => rfl
  refine iQ ?_
  unfold md
  refine fL (δ1 := [.ob (bE b.ks (r, a)) (cu b.ks b.vs (r, a) (tI [(b.as.length : Int)])) (b.as ++ [lpD (y, w, l)]) (b.bs ++ [.tup [(dK r a y).D, .lst [.tup [.key r a, tI l]]]]), .sh (dK r a y).D, .sh (.key r a), .sh (tI l), .sh (.int (b.as.length : Int))]) ?_ rfl
  refine av (R1 := .ok .nx [b.sl, .sh (dK r a y).D, .sh (.key r a), .no, .no]) (aS (dS (aq (ak (ai rfl) aj rfl rfl rfl) (aq (ak (ai rfl) aj rfl rfl rfl) aB)) rfl) rfl) (az ?_)
  refine av (R1 := .ok .nx [b.sl, .sh (dK r a y).D, .sh (.key r a), .sh (tI l), .no]) ((aS (la (q := (r, a)) (eI b _) rfl hf) rfl).trans (by rw [hl]; rfl)) (az ?_)
  refine av (aJ (eX (kQ (ds := iD l) (ai rfl) rfl)) (aW (by rw [he]; rfl) bh)) (az ?_)
  have k1 : bz 0 3 (ae (aa 1) (ae (bF (ae (aa 2) ah)) ah)) cR [b.sl, .sh (dK r a y).D, .sh (.key r a), .sh (tI l), .no] = .ok (.val .non) [.ob b.ks b.vs b.as (b.bs ++ [.tup [(dK r a y).D, .lst [.tup [.key r a, tI l]]]]), .sh (dK r a y).D, .sh (.key r a), .sh (tI l), .no] :=
    dt (b := b) (own := true) (aq (ai rfl) (aq (eu (aq (ai rfl) aB) rfl (by change 1 ≤ sizeLine; unfold sizeLine; omega)) aB)) rfl rfl rfl (by
      change rwW 0 true (cR b [(dK r a y).D, .lst [.key r a]]) _ = _
      rw [rN b _ r a l hl (hz hb)]
      rfl)
  have k2 : bz 0 4 (ae (af (aa 1) (fC (.int 3)) gIx) (ae (fUn (af (aa 1) (fC (.int 1)) gIx) (gS j1)) (ae (aa 3) ah))) dZ [.ob b.ks b.vs b.as (b.bs ++ [.tup [(dK r a y).D, .lst [.tup [.key r a, tI l]]]]), .sh (dK r a y).D, .sh (.key r a), .sh (tI l), .no] = .ok (.val (.int (b.as.length : Int))) [.ob b.ks b.vs (b.as ++ [lpD (y, w, l)]) (b.bs ++ [.tup [(dK r a y).D, .lst [.tup [.key r a, tI l]]]]), .sh (dK r a y).D, .sh (.key r a), .sh (tI l), .no] :=
    dt (b := ⟨b.ks, b.vs, b.as, (b.bs ++ [.tup [(dK r a y).D, .lst [.tup [.key r a, tI l]]]])⟩) (own := true) (aq (ak (ai rfl) aj rfl rfl rfl) (aq (jY (ak (ai rfl) aj rfl rfl rfl) rfl hw) (aq (ai rfl) aB))) rfl rfl rfl (by
      change rwW 0 true (dZ ⟨b.ks, b.vs, b.as, (b.bs ++ [.tup [(dK r a y).D, .lst [.tup [.key r a, tI l]]]])⟩ [.str y, .str w, tI l]) _ = _
      have nl := qv (⟨b.ks, b.vs, b.as, (b.bs ++ [.tup [(dK r a y).D, .lst [.tup [.key r a, tI l]]]])⟩ : Bd) (.str y) (.str w) (tI l) (hz ha)
      rw [nl]
      rfl)
  refine av (lC k1) (az (av (aS k2 rfl) (az (av (mB (i := 0) (d8 (aq (ai rfl) aB) rfl (by change 1 ≤ sizeLine; unfold sizeLine; omega)) rfl rfl (ai rfl) rfl (hz hk)) (az ?_)))))
  exact bQ (ai rfl) cN
end
end Lw
namespace Lw
open PySem L2 DL
theorem lE {r : Str} (h : cK r) : gS lB (.str r) = some (.val (.str (other r))) := by
  rcases h with rfl | rfl <;> kernel_rfl
theorem wH {r : Str} (h : cK r) : gS j1 (.str r) = some (.val (.str (if r = Str.ofString "f" then Str.ofString "k" else Str.ofString "p"))) := by
  rcases h with rfl | rfl <;> kernel_rfl
theorem lX (x : Int) : DL.gt (if x < 0 then -x else x) 2 = decide (x > 2 ∨ -x > 2) := by
  unfold DL.gt
  by_cases h : x > 2 ∨ -x > 2
  · rw [decide_eq_true h]; exact decide_eq_true (by split <;> omega)
  · rw [decide_eq_false h]; exact decide_eq_false (by split <;> omega)
section
variable {s : Sl} {b : Bd} {own : Bool} {r : Str} {a t : Int} {l m : List Int}
theorem qM (hd : (Dd.mv r a t).ok) (h2 : a - t > 2 ∨ t - a > 2) : gX (s :: cC 6 [(Dd.mv r a t).D]) = .er "TooFar" := by
  unfold gX
  refine av (R1 := .ok .nx [s, .sh (Dd.mv r a t).D, .sh (.key r a), .no, .no, .no]) (aS (dS (aq (ak (ai rfl) aj rfl rfl rfl) (aq (ak (ai rfl) aj rfl rfl rfl) aB)) rfl) rfl) (az ?_)
  refine av (R1 := .ok .nx [s, .sh (Dd.mv r a t).D, .sh (.key r a), .sh (.key (other r) t), .no, .no]) (aS (dS (aq (jY (ak (ai rfl) aj rfl rfl rfl) rfl (lE hd.1)) (aq (ak (ai rfl) aj rfl rfl rfl) aB)) rfl) rfl) (az ?_)
  refine av (aJ (aK (ak (cy (aq (ak (ak (ai rfl) aj rfl rfl rfl) (ak (ai rfl) aj rfl rfl rfl) rfl rfl rfl) aB) rfl rfl) aj rfl rfl rfl) rfl) (bS ((lX (a - t)).trans (decide_eq_true (by omega))) (kz ?_))) gZ
  change (true && (true && (true && (okT 1 _ && true)))) = true
  rw [lj hd rfl]
  rfl
theorem tX (hs : ∀ rest, bR (s :: rest) 0 = some (b, own)) (hd : (Dd.mv r a t).ok) (h2 : ¬ (a - t > 2 ∨ t - a > 2)) (hl : lk b (r, a) = tI []) : gX (s :: cC 6 [(Dd.mv r a t).D]) = .er "Empty" := by
  have hf : flat (lk b (r, a)) = true := by rw [hl]; exact d6 []
  unfold gX
  refine av (R1 := .ok .nx [s, .sh (Dd.mv r a t).D, .sh (.key r a), .no, .no, .no]) (aS (dS (aq (ak (ai rfl) aj rfl rfl rfl) (aq (ak (ai rfl) aj rfl rfl rfl) aB)) rfl) rfl) (az ?_)
  refine av (R1 := .ok .nx [s, .sh (Dd.mv r a t).D, .sh (.key r a), .sh (.key (other r) t), .no, .no]) (aS (dS (aq (jY (ak (ai rfl) aj rfl rfl rfl) rfl (lE hd.1)) (aq (ak (ai rfl) aj rfl rfl rfl) aB)) rfl) rfl) (az ?_)
  refine av (aJ (aK (ak (cy (aq (ak (ak (ai rfl) aj rfl rfl rfl) (ak (ai rfl) aj rfl rfl rfl) rfl rfl rfl) aB) rfl rfl) aj rfl rfl rfl) rfl) (aW ((lX (a - t)).trans (decide_eq_false (by omega))) bh)) (az ?_)
  refine av (R1 := .ok .nx [s, .sh (Dd.mv r a t).D, .sh (.key r a), .sh (.key (other r) t), .sh (tI []), .no]) ((aS (la (q := (r, a)) (hs _) rfl hf) rfl).trans (by rw [hl]; rfl)) (az ?_)
  refine av (aJ (eX (kQ (ds := []) (ai rfl) rfl)) (bS rfl (kz ?_))) gZ
  change (true && (okT 1 _ && true)) = true
  rw [lj hd rfl]
  rfl
theorem tO (m l : List Int) (h : m.length + l.length ≤ 100) : jt (tI m) (tI l) = some (.val (tI (m ++ l))) := by
  change (if (iD m).length + (iD l).length ≤ sizeLine then some (DV.val (.tup (iD m ++ iD l))) else none) = _
  rw [if_pos (by rw [eK, eK]; unfold sizeLine; omega), tI, mS]
theorem rY (hs : ∀ rest, bR (s :: rest) 0 = some (b, own)) (hd : (Dd.mv r a t).ok) (h2 : ¬ (a - t > 2 ∨ t - a > 2)) (hl : lk b (r, a) = tI l) (h0 : l ≠ []) (hm : lk b (other r, t) = tI m) (h4 : m.length + l.length > 4) (h5 : m.length + l.length ≤ 100) : gX (s :: cC 6 [(Dd.mv r a t).D]) = .er "Overfull" := by
  have hf : flat (lk b (r, a)) = true := by rw [hl]; exact d6 l
  have hg : flat (lk b (other r, t)) = true := by rw [hm]; exact d6 m
  have he : (iD l).isEmpty = false := by cases l with | nil => exact absurd rfl h0 | cons _ _ => rfl
  unfold gX
  refine av (R1 := .ok .nx [s, .sh (Dd.mv r a t).D, .sh (.key r a), .no, .no, .no]) (aS (dS (aq (ak (ai rfl) aj rfl rfl rfl) (aq (ak (ai rfl) aj rfl rfl rfl) aB)) rfl) rfl) (az ?_)
  refine av (R1 := .ok .nx [s, .sh (Dd.mv r a t).D, .sh (.key r a), .sh (.key (other r) t), .no, .no]) (aS (dS (aq (jY (ak (ai rfl) aj rfl rfl rfl) rfl (lE hd.1)) (aq (ak (ai rfl) aj rfl rfl rfl) aB)) rfl) rfl) (az ?_)
  refine av (aJ (aK (ak (cy (aq (ak (ak (ai rfl) aj rfl rfl rfl) (ak (ai rfl) aj rfl rfl rfl) rfl rfl rfl) aB) rfl rfl) aj rfl rfl rfl) rfl) (aW ((lX (a - t)).trans (decide_eq_false (by omega))) bh)) (az ?_)
  refine av (R1 := .ok .nx [s, .sh (Dd.mv r a t).D, .sh (.key r a), .sh (.key (other r) t), .sh (tI l), .no]) ((aS (la (q := (r, a)) (hs _) rfl hf) rfl).trans (by rw [hl]; rfl)) (az ?_)
  refine av (aJ (eX (kQ (ds := iD l) (ai rfl) rfl)) (aW (by rw [he]; rfl) bh)) (az ?_)
  refine av (R1 := .ok .nx [s, .sh (Dd.mv r a t).D, .sh (.key r a), .sh (.key (other r) t), .sh (tI l), .sh (tI (m ++ l))]) (aS (ak (la (q := (other r, t)) (hs _) rfl hg) (ai rfl) (congrArg some hm) rfl (tO m l h5)) rfl) (az ?_)
  refine av (aJ (aK (ak (cy (aq (ai rfl) aB) rfl (lT _)) aj rfl rfl rfl) rfl) (bS (decide_eq_true (by rw [List.length_append]; omega)) (kz ?_))) gZ
  change (true && (okT 1 _ && true)) = true
  rw [lj hd rfl]
  rfl
theorem yx (hd : (Dd.mv r a t).ok) (h2 : ¬ (a - t > 2 ∨ t - a > 2)) (hl : lk b (r, a) = tI l) (h0 : l ≠ []) (hm : lk b (other r, t) = tI m) (h4 : m.length + l.length ≤ 4) (hk : b.ks.length < 10000) (hb : b.bs.length < 10000) : g0 b [(Dd.mv r a t).D] =
    .ok .non ⟨bE (bE b.ks (r, a)) (other r, t), cu (bE b.ks (r, a)) (cu b.ks b.vs (r, a) (tI [])) (other r, t) (tI (m ++ l)), b.as, (b.bs ++ [.tup [(Dd.mv r a t).D, .lst [.tup [.key r a, tI l], .tup [.key (other r) t, tI m]]]])⟩ := by
  have hf : flat (lk b (r, a)) = true := by rw [hl]; exact d6 l
  have hg : flat (lk b (other r, t)) = true := by rw [hm]; exact d6 m
  have he : (iD l).isEmpty = false := by cases l with | nil => exact absurd rfl h0 | cons _ _ => rfl
  have hz : ∀ {n : Nat}, n < 10001 → n < sizeLine := fun h => by unfold sizeLine; omega
  have hk2 : (bE b.ks (r, a)).length < 10001 := by
    unfold bE
    split
    · omega
    · rw [List.length_append]; change _ + 1 < _; omega
  refine iQ ?_
  unfold gX
  refine fL (δ1 := [.ob (bE (bE b.ks (r, a)) (other r, t)) (cu (bE b.ks (r, a)) (cu b.ks b.vs (r, a) (tI [])) (other r, t) (tI (m ++ l))) b.as (b.bs ++ [.tup [(Dd.mv r a t).D, .lst [.tup [.key r a, tI l], .tup [.key (other r) t, tI m]]]]), .sh (Dd.mv r a t).D, .sh (.key r a), .sh (.key (other r) t), .sh (tI l), .sh (tI (m ++ l))]) ?_ rfl
  refine av (R1 := .ok .nx [b.sl, .sh (Dd.mv r a t).D, .sh (.key r a), .no, .no, .no]) (aS (dS (aq (ak (ai rfl) aj rfl rfl rfl) (aq (ak (ai rfl) aj rfl rfl rfl) aB)) rfl) rfl) (az ?_)
  refine av (R1 := .ok .nx [b.sl, .sh (Dd.mv r a t).D, .sh (.key r a), .sh (.key (other r) t), .no, .no]) (aS (dS (aq (jY (ak (ai rfl) aj rfl rfl rfl) rfl (lE hd.1)) (aq (ak (ai rfl) aj rfl rfl rfl) aB)) rfl) rfl) (az ?_)
  refine av (aJ (aK (ak (cy (aq (ak (ak (ai rfl) aj rfl rfl rfl) (ak (ai rfl) aj rfl rfl rfl) rfl rfl rfl) aB) rfl rfl) aj rfl rfl rfl) rfl) (aW ((lX (a - t)).trans (decide_eq_false (by omega))) bh)) (az ?_)
  refine av (R1 := .ok .nx [b.sl, .sh (Dd.mv r a t).D, .sh (.key r a), .sh (.key (other r) t), .sh (tI l), .no]) ((aS (la (q := (r, a)) (eI b _) rfl hf) rfl).trans (by rw [hl]; rfl)) (az ?_)
  refine av (aJ (eX (kQ (ds := iD l) (ai rfl) rfl)) (aW (by rw [he]; rfl) bh)) (az ?_)
  refine av (R1 := .ok .nx [b.sl, .sh (Dd.mv r a t).D, .sh (.key r a), .sh (.key (other r) t), .sh (tI l), .sh (tI (m ++ l))]) (aS (ak (la (q := (other r, t)) (eI b _) rfl hg) (ai rfl) (congrArg some hm) rfl (tO m l (by omega))) rfl) (az ?_)
  refine av (aJ (aK (ak (cy (aq (ai rfl) aB) rfl (lT _)) aj rfl rfl rfl) rfl) (aW (decide_eq_false (by rw [List.length_append]; omega)) bh)) (az ?_)
  have k1 : bz 0 3 (ae (aa 1) (ae (bF (ae (aa 2) (ae (aa 3) ah))) ah)) cR [b.sl, .sh (Dd.mv r a t).D, .sh (.key r a), .sh (.key (other r) t), .sh (tI l), .sh (tI (m ++ l))] = .ok (.val .non) [.ob b.ks b.vs b.as (b.bs ++ [.tup [(Dd.mv r a t).D, .lst [.tup [.key r a, tI l], .tup [.key (other r) t, tI m]]]]), .sh (Dd.mv r a t).D, .sh (.key r a), .sh (.key (other r) t), .sh (tI l), .sh (tI (m ++ l))] :=
    dt (b := b) (own := true) (aq (ai rfl) (aq (eu (aq (ai rfl) (aq (ai rfl) aB)) rfl (by change 2 ≤ sizeLine; unfold sizeLine; omega)) aB)) rfl rfl rfl (by
      change rwW 0 true (cR b [(Dd.mv r a t).D, .lst [.key r a, .key (other r) t]]) _ = _
      rw [wN b _ r (other r) a t l m hl hm (hz (by omega))]
      rfl)
  refine av (lC k1) (az (av (mB (i := 0) (d8 aB rfl (by change 0 ≤ sizeLine; unfold sizeLine; omega)) rfl rfl (ai rfl) rfl (hz (by omega))) (az (av (mB (i := 0) (ai rfl) rfl rfl (ai rfl) rfl (hz hk2)) (az ?_)))))
  exact bQ aj cN
end
end Lw
namespace Lw
open PySem L2 DL
theorem pY : gEq (.str (Str.ofString "knit")) (.str (Str.ofString "knit")) = some (.val (.bl true)) := by kernel_rfl
theorem tj : gEq (.str (Str.ofString "tuck")) (.str (Str.ofString "knit")) = some (.val (.bl false)) := by kernel_rfl
theorem qD : gEq (.str (Str.ofString "tuck")) (.str (Str.ofString "tuck")) = some (.val (.bl true)) := by kernel_rfl
theorem eq_mk : gEq (.str (Str.ofString "move")) (.str (Str.ofString "knit")) = some (.val (.bl false)) := by kernel_rfl
theorem rh : gEq (.str (Str.ofString "move")) (.str (Str.ofString "tuck")) = some (.val (.bl false)) := by kernel_rfl
section
variable {b b' : Bd} {r : Str} {a t : Int} {y : Str} {x : D} {c : Str}
theorem Bi (h : gY b [(dK r a y).D] = .ok x b') : cQ b [(dK r a y).D] = .ok x b' := by
  refine iQ ?_
  unfold fM
  refine fL (δ1 := [b'.sl, .sh (dK r a y).D]) ?_ rfl
  exact av (aJ (aK (ak (ak (ai rfl) aj rfl rfl rfl) aj rfl rfl pY) rfl) (bS rfl (bQ (dt (b := b) (own := true) (aq (ai rfl) aB) rfl rfl rfl (by rw [h]; rfl)) cN))) fh
theorem xv (h : iH b [(dT r a y).D] = .ok x b') : cQ b [(dT r a y).D] = .ok x b' := by
  refine iQ ?_
  unfold fM
  refine fL (δ1 := [b'.sl, .sh (dT r a y).D]) ?_ rfl
  exact av (aJ (aK (ak (ak (ai rfl) aj rfl rfl rfl) aj rfl rfl tj) rfl) (aW rfl bh)) (az (av (aJ (aK (ak (ak (ai rfl) aj rfl rfl rfl) aj rfl rfl qD) rfl) (bS rfl (bQ (dt (b := b) (own := true) (aq (ai rfl) aB) rfl rfl rfl (by rw [h]; rfl)) cN))) fh))
theorem wF (h : g0 b [(Dd.mv r a t).D] = .ok x b') : cQ b [(Dd.mv r a t).D] = .ok x b' := by
  refine iQ ?_
  unfold fM
  refine fL (δ1 := [b'.sl, .sh (Dd.mv r a t).D]) ?_ rfl
  exact av (aJ (aK (ak (ak (ai rfl) aj rfl rfl rfl) aj rfl rfl eq_mk) rfl) (aW rfl bh)) (az (av (aJ (aK (ak (ak (ai rfl) aj rfl rfl rfl) aj rfl rfl rh) rfl) (aW rfl bh)) (az (bQ (dt (b := b) (own := true) (aq (ai rfl) aB) rfl rfl rfl (by rw [h]; rfl)) cN))))
theorem wY (h : gY b [(dK r a y).D] = .er c) : cQ b [(dK r a y).D] = .er c := by
  have g : ∀ (s : Sl) (own : Bool), (∀ rest, bR (s :: rest) 0 = some (b, own)) → fM (s :: cC 2 [(dK r a y).D]) = .er c := fun s own hs => by
    unfold fM
    exact av (aJ (aK (ak (ak (ai rfl) aj rfl rfl rfl) aj rfl rfl pY) rfl) (bS rfl (bQ (Z := .er c) (dt (b := b) (own := own) (aq (ai rfl) aB) rfl (hs _) rfl (by rw [h]; rfl)) rfl))) gZ
  exact gE (g _ _ (eI b)) (g _ _ (iM b))
theorem yu (h : iH b [(dT r a y).D] = .er c) : cQ b [(dT r a y).D] = .er c := by
  have g : ∀ (s : Sl) (own : Bool), (∀ rest, bR (s :: rest) 0 = some (b, own)) → fM (s :: cC 2 [(dT r a y).D]) = .er c := fun s own hs => by
    unfold fM
    exact av (aJ (aK (ak (ak (ai rfl) aj rfl rfl rfl) aj rfl rfl tj) rfl) (aW rfl bh)) (az (av (aJ (aK (ak (ak (ai rfl) aj rfl rfl rfl) aj rfl rfl qD) rfl) (bS rfl (bQ (Z := .er c) (dt (b := b) (own := own) (aq (ai rfl) aB) rfl (hs _) rfl (by rw [h]; rfl)) rfl))) gZ))
  exact gE (g _ _ (eI b)) (g _ _ (iM b))
theorem nH (h : g0 b [(Dd.mv r a t).D] = .er c) : cQ b [(Dd.mv r a t).D] = .er c := by
  have g : ∀ (s : Sl) (own : Bool), (∀ rest, bR (s :: rest) 0 = some (b, own)) → fM (s :: cC 2 [(Dd.mv r a t).D]) = .er c := fun s own hs => by
    unfold fM
    exact av (aJ (aK (ak (ak (ai rfl) aj rfl rfl rfl) aj rfl rfl eq_mk) rfl) (aW rfl bh)) (az (av (aJ (aK (ak (ak (ai rfl) aj rfl rfl rfl) aj rfl rfl rh) rfl) (aW rfl bh)) (az (bQ (Z := .er c) (dt (b := b) (own := own) (aq (ai rfl) aB) rfl (hs _) rfl (by rw [h]; rfl)) rfl))))
  exact gE (g _ _ (eI b)) (g _ _ (iM b))
end
section
variable {q q' : Str × Int} {d : D}
theorem qE (hq : q ≠ q') : ∀ (ks : List (Str × Int)) (vs : List D), bX ks (fA ks vs q d) q' = bX ks vs q'
  | [], _ => rfl
  | _ :: _, [] => rfl
  | k :: ks, v :: vs => by
    change (if k = q' then some (if k = q then d else v) else bX ks (fA ks vs q d) q') = if k = q' then some v else bX ks vs q'
    by_cases h : k = q'
    · rw [if_pos h, if_pos h, if_neg (fun z => hq (z.symm.trans h))]
    · rw [if_neg h, if_neg h, qE hq ks vs]
theorem tP : ∀ (ks : List (Str × Int)) (vs : List D), ks.length = vs.length → q ∈ ks → bX ks (fA ks vs q d) q = some d
  | [], _, _, h => by cases h
  | _ :: _, [], h, _ => by cases h
  | k :: ks, v :: vs, hl, hq => by
    change (if k = q then some (if k = q then d else v) else bX ks (fA ks vs q d) q) = some d
    by_cases h : k = q
    · rw [if_pos h, if_pos h]
    · rw [if_neg h]
      rcases List.mem_cons.mp hq with z | z
      · exact absurd z.symm h
      · exact tP ks vs (Nat.succ.inj hl) z
theorem tW : ∀ (ks : List (Str × Int)) (vs : List D), ks.length = vs.length → q ∉ ks → bX (ks ++ [q]) (vs ++ [d]) q' = if q = q' then some d else bX ks vs q'
  | [], [], _, _ => rfl
  | [], _ :: _, h, _ => by cases h
  | _ :: _, [], h, _ => by cases h
  | k :: ks, v :: vs, hl, hq => by
    change (if k = q' then some v else bX (ks ++ [q]) (vs ++ [d]) q') = if q = q' then some d else if k = q' then some v else bX ks vs q'
    have hk : q ≠ k := fun z => hq (by rw [z]; exact List.mem_cons_self)
    by_cases h : k = q'
    · rw [if_pos h, if_pos h, if_neg (fun z => hk (z.trans h.symm))]
    · rw [if_neg h, if_neg h]
      exact tW ks vs (Nat.succ.inj hl) fun z => hq (List.mem_cons_of_mem _ z)
theorem Bx {ks : List (Str × Int)} {vs : List D} (hl : ks.length = vs.length) : bX (bE ks q) (cu ks vs q d) q' = if q = q' then some d else bX ks vs q' := by
  unfold bE cu
  by_cases h : q ∈ ks
  · rw [if_pos h, if_pos h]
    by_cases e : q = q'
    · subst e; rw [if_pos rfl]; exact tP ks vs hl h
    · rw [if_neg e]; exact qE e ks vs
  · rw [if_neg h, if_neg h]
    exact tW ks vs hl h
theorem qC : ∀ (ks : List (Str × Int)) (vs : List D), (fA ks vs q d).length = vs.length
  | [], _ => rfl
  | _ :: _, [] => rfl
  | _ :: ks, _ :: vs => congrArg (· + 1) (qC ks vs)
theorem hX {ks : List (Str × Int)} {vs : List D} (hl : ks.length = vs.length) : (bE ks q).length = (cu ks vs q d).length ∧ (bE ks q).length ≤ ks.length + 1 := by
  unfold bE cu
  by_cases h : q ∈ ks
  · rw [if_pos h, if_pos h, qC]; exact ⟨hl, Nat.le_succ _⟩
  · rw [if_neg h, if_neg h, List.length_append, List.length_append, hl]; exact ⟨rfl, Nat.le_refl _⟩
theorem oq {b : Bd} {as bs : List D} (hl : b.ks.length = b.vs.length) : lk ⟨bE b.ks q, cu b.ks b.vs q d, as, bs⟩ q' = if q = q' then d else lk b q' := by
  unfold lk
  rw [Bx hl]
  split <;> rfl
end
theorem nD {hs : List (List Int)} {i j : Int} {x : List Int} (h : i.toNat < hs.length) : hAt (hs.set i.toNat x) j = if i.toNat = j.toNat then x else hAt hs j := by
  unfold hAt
  rw [List.getD_eq_getElem?_getD, List.getD_eq_getElem?_getD]
  by_cases e : i.toNat = j.toNat
  · rw [if_pos e, ← e, List.getElem?_set_self h]; rfl
  · rw [if_neg e, List.getElem?_set_ne e]
theorem iC {r r' : Str} {a a' : Int} (hr : cK r) (hr' : cK r') (h0 : 0 ≤ a) (h1 : a ≤ 15) (h0' : 0 ≤ a') (h1' : a' ≤ 15) : (hk r a).toNat = (hk r' a').toNat ↔ (r, a) = (r', a') := by
  have bf : ¬ Str.ofString "b" = Str.ofString "f" := by decide +kernel
  constructor
  · intro h
    rcases hr with rfl | rfl <;> rcases hr' with rfl | rfl
    · unfold hk at h; rw [if_pos rfl, if_pos rfl] at h; rw [show a = a' by omega]
    · unfold hk at h; rw [if_pos rfl, if_neg bf] at h; omega
    · unfold hk at h; rw [if_neg bf, if_pos rfl] at h; omega
    · unfold hk at h; rw [if_neg bf, if_neg bf] at h; rw [show a = a' by omega]
  · intro h
    injection h with h1 h2
    rw [h1, h2]
end Lw
namespace Lw
open PySem L2 DL
noncomputable abbrev gf (d : Dd) (p : List D) : D := .tup [d.D, .lst p]
structure BS (hs : List (List Int)) (cl : List Lp) (ds : List Dd) (b : Bd) : Prop where
  lk : ∀ r a, cK r → 0 ≤ a → a ≤ 15 → lk b (r, a) = tI (hAt hs (hk r a))
  as : b.as = clD cl
  ps : ∃ ps : List (List D), ps.length = ds.length ∧ b.bs = List.zipWith gf ds ps
  kl : b.ks.length = b.vs.length
  kn : b.ks.length ≤ 2 * ds.length
section
variable {hs : List (List Int)} {cl : List Lp} {ds : List Dd} {b : Bd} {d : Dd} {r : Str} {a t : Int} {l' m' : List Int} {e : List Lp} {p : List D}
theorem BS.snoc (B : BS hs cl ds b) : ∃ ps : List (List D), ps.length = (ds ++ [d]).length ∧ b.bs ++ [gf d p] = List.zipWith gf (ds ++ [d]) ps := by
  obtain ⟨ps, h1, h2⟩ := B.ps
  refine ⟨ps ++ [p], by rw [List.length_append, List.length_append, h1]; rfl, ?_⟩
  rw [h2, List.zipWith_append h1.symm]
  rfl
theorem BS.put1 (B : BS hs cl ds b) (h32 : hs.length = 32) (hr : cK r) (h0 : 0 ≤ a) (h1 : a ≤ 15) : BS (hs.set (hk r a).toNat l') (cl ++ e) (ds ++ [d]) ⟨bE b.ks (r, a), cu b.ks b.vs (r, a) (tI l'), b.as ++ clD e, b.bs ++ [gf d p]⟩ where
  lk := fun r' a' hr' h0' h1' => by
    have hb := cH (r := r) h0 h1
    rw [oq B.kl, nD (by omega)]
    by_cases q : (r, a) = (r', a')
    · rw [if_pos q, if_pos ((iC hr hr' h0 h1 h0' h1').mpr q)]
    · rw [if_neg q, if_neg (fun z => q ((iC hr hr' h0 h1 h0' h1').mp z))]
      exact B.lk r' a' hr' h0' h1'
  as := by change b.as ++ clD e = _; rw [B.as, oV]
  ps := B.snoc
  kl := (hX B.kl).1
  kn := by
    have := (hX (q := (r, a)) (d := tI l') B.kl).2
    have := B.kn
    change (bE b.ks (r, a)).length ≤ _
    rw [List.length_append]
    change _ ≤ 2 * (ds.length + 1)
    omega
theorem BS.put2 (B : BS hs cl ds b) (h32 : hs.length = 32) (hr : cK r) (h0 : 0 ≤ a) (h1 : a ≤ 15) (h2 : 0 ≤ t) (h3 : t ≤ 15) (hne : other r ≠ r) : BS ((hs.set (hk (other r) t).toNat m').set (hk r a).toNat []) cl (ds ++ [d])
    ⟨bE (bE b.ks (r, a)) (other r, t), cu (bE b.ks (r, a)) (cu b.ks b.vs (r, a) (tI [])) (other r, t) (tI m'), b.as, b.bs ++ [gf d p]⟩ where
  lk := fun r' a' hr' h0' h1' => by
    have hb := cH (r := r) h0 h1
    have hb2 := cH (r := other r) h2 h3
    have k1 := hX (q := (r, a)) (d := tI []) B.kl
    have e1 := oq (b := ⟨bE b.ks (r, a), cu b.ks b.vs (r, a) (tI []), b.as, b.bs⟩) (q := (other r, t)) (q' := (r', a')) (d := tI m') (as := b.as) (bs := b.bs ++ [gf d p]) k1.1
    have e2 := oq (b := b) (q := (r, a)) (q' := (r', a')) (d := tI []) (as := b.as) (bs := b.bs) B.kl
    refine e1.trans ?_
    rw [e2, nD (by rw [List.length_set]; omega), nD (by omega)]
    by_cases q : (other r, t) = (r', a')
    · have q2 : ¬ (r, a) = (r', a') := fun z => hne (congrArg Prod.fst (q.trans z.symm))
      rw [if_pos q, if_neg (fun z => q2 ((iC hr hr' h0 h1 h0' h1').mp z)), if_pos ((iC (mD r) hr' h2 h3 h0' h1').mpr q)]
    · rw [if_neg q, if_neg (c := (hk (other r) t).toNat = (hk r' a').toNat) (fun z => q ((iC (mD r) hr' h2 h3 h0' h1').mp z))]
      by_cases q2 : (r, a) = (r', a')
      · rw [if_pos q2, if_pos ((iC hr hr' h0 h1 h0' h1').mpr q2)]
      · rw [if_neg q2, if_neg (fun z => q2 ((iC hr hr' h0 h1 h0' h1').mp z))]
        exact B.lk r' a' hr' h0' h1'
  as := B.as
  ps := B.snoc
  kl := (hX (hX B.kl).1).1
  kn := by
    have k1 := hX (q := (r, a)) (d := tI []) B.kl
    have k2 := (hX (q := (other r, t)) (d := tI m') k1.1).2
    have := B.kn
    change (bE (bE b.ks (r, a)) (other r, t)).length ≤ _
    rw [List.length_append]
    change _ ≤ 2 * (ds.length + 1)
    omega
end
theorem BS.start : BS (List.replicate 32 []) [] [] ⟨[], [], [], []⟩ where
  lk := fun r a _ _ _ => by
    have : hAt (List.replicate 32 []) (hk r a) = [] := by
      unfold hAt
      rw [List.getD_eq_getElem?_getD, List.getElem?_replicate]
      split <;> rfl
    rw [this]
    rfl
  as := rfl
  ps := ⟨[], rfl, rfl⟩
  kl := rfl
  kn := Nat.zero_le _
noncomputable def excOf (w : Str) : Str := if w = Str.ofString "far" then "TooFar" else if w = Str.ofString "empty" then "Empty" else "Overfull"
theorem sE : excOf (Str.ofString "far") = "TooFar" := if_pos rfl
theorem oZ : excOf (Str.ofString "empty") = "Empty" := by decide +kernel
theorem nQ : excOf (Str.ofString "full") = "Overfull" := by decide +kernel
noncomputable def dz (cl : List Lp) : Dd → D
  | .ky _ _ _ _ => .int (cl.length : Int)
  | .mv _ _ _ => .non
theorem uw {r : Str} (h : cK r) : other r ≠ r := by
  rcases h with rfl | rfl <;> decide +kernel
theorem tw : ¬ Str.ofString "knit" = Str.ofString "tuck" := by decide +kernel
theorem rj : ¬ Str.ofString "tuck" = Str.ofString "knit" := by decide +kernel
theorem Bq {hs : List (List Int)} {cl : List Lp} {ds : List Dd} {b : Bd} {d : Dd} (B : BS hs cl ds b) (h32 : hs.length = 32) (h4 : ∀ l ∈ hs, l.length ≤ 4) (hc : cl.length < 1000) (hn : ds.length < 1000) (hd : d.ok) :
    (cj hs d = none → ∃ b', cQ b [d.D] = .ok (dz cl d) b' ∧ BS (doF hs cl d).1 (doF hs cl d).2 (ds ++ [d]) b') ∧ (∀ w, cj hs d = some w → cQ b [d.D] = .er (excOf w)) := by
  have hk1 : b.ks.length < 10000 := by have := B.kn; omega
  have hlen : b.as.length = cl.length := by rw [B.as, iB]
  have ha1 : b.as.length < 10000 := by omega
  have hb1 : b.bs.length < 10000 := by
    obtain ⟨ps, h1, h2⟩ := B.ps
    rw [h2, List.length_zipWith, h1]
    omega
  cases d with
  | ky k r a y =>
    obtain ⟨hk, hr, h0, h1, hy⟩ := id hd
    have hbk := cH (r := r) h0 h1
    have hl := B.lk r a hr h0 h1
    have hm := h4 _ (fZ (hs := hs) (i := Lw.hk r a) (by omega))
    generalize hL : hAt hs (Lw.hk r a) = l at *
    rcases hk with rfl | rfl
    · by_cases e : l = []
      · have hw : cj hs (dK r a y) = some (Str.ofString "empty") := by
          change (if Str.ofString "knit" = Str.ofString "knit" ∧ hAt hs (Lw.hk r a) = [] then some (Str.ofString "empty") else if Str.ofString "knit" = Str.ofString "tuck" ∧ (hAt hs (Lw.hk r a)).length = 4 then some (Str.ofString "full") else none) = _
          rw [if_pos ⟨rfl, by rw [hL, e]⟩]
        refine ⟨(fun z => by rw [hw] at z; cases z), fun w z => ?_⟩
        rw [hw] at z
        cases z
        rw [oZ]
        rw [e] at hl
        exact wY (gE (sj (eI b) hd hl) (sj (iM b) hd hl))
      · have hw : cj hs (dK r a y) = none := by
          change (if Str.ofString "knit" = Str.ofString "knit" ∧ hAt hs (Lw.hk r a) = [] then some (Str.ofString "empty") else if Str.ofString "knit" = Str.ofString "tuck" ∧ (hAt hs (Lw.hk r a)).length = 4 then some (Str.ofString "full") else none) = _
          rw [if_neg (fun z => e (hL.symm.trans z.2)), if_neg (fun z => tw z.1)]
        refine ⟨fun _ => ⟨_, Bi ((Be (wH hr) hl e hk1 ha1 hb1).trans (by rw [hlen]; rfl)), ?_⟩, (fun w z => by rw [hw] at z; cases z)⟩
        have hdo : doF hs cl (dK r a y) = (hs.set (Lw.hk r a).toNat [(cl.length : Int)], cl ++ [(y, if r = Str.ofString "f" then Str.ofString "k" else Str.ofString "p", l)]) := by
          change (if Str.ofString "knit" = Str.ofString "tuck" then (hs.set (Lw.hk r a).toNat (hAt hs (Lw.hk r a) ++ [(cl.length : Int)]), cl ++ [(y, Str.ofString "t", [])]) else (hs.set (Lw.hk r a).toNat [(cl.length : Int)], cl ++ [(y, if r = Str.ofString "f" then Str.ofString "k" else Str.ofString "p", hAt hs (Lw.hk r a))])) = _
          rw [if_neg tw, hL]
        rw [hdo]
        exact B.put1 h32 hr h0 h1
    · by_cases e : l.length = 4
      · have hw : cj hs (dT r a y) = some (Str.ofString "full") := by
          change (if Str.ofString "tuck" = Str.ofString "knit" ∧ hAt hs (Lw.hk r a) = [] then some (Str.ofString "empty") else if Str.ofString "tuck" = Str.ofString "tuck" ∧ (hAt hs (Lw.hk r a)).length = 4 then some (Str.ofString "full") else none) = _
          rw [if_neg (fun z => rj z.1), if_pos ⟨rfl, by rw [hL, e]⟩]
        refine ⟨(fun z => by rw [hw] at z; cases z), fun w z => ?_⟩
        rw [hw] at z
        cases z
        rw [nQ]
        exact yu (gE (rV (eI b) hd hl (by omega)) (rV (iM b) hd hl (by omega)))
      · have hw : cj hs (dT r a y) = none := by
          change (if Str.ofString "tuck" = Str.ofString "knit" ∧ hAt hs (Lw.hk r a) = [] then some (Str.ofString "empty") else if Str.ofString "tuck" = Str.ofString "tuck" ∧ (hAt hs (Lw.hk r a)).length = 4 then some (Str.ofString "full") else none) = _
          rw [if_neg (fun z => rj z.1), if_neg (fun z => e (by rw [← hL]; exact z.2))]
        refine ⟨fun _ => ⟨_, xv ((AE hl (by omega) hk1 ha1 hb1).trans (by rw [hlen]; rfl)), ?_⟩, (fun w z => by rw [hw] at z; cases z)⟩
        have hdo : doF hs cl (dT r a y) = (hs.set (Lw.hk r a).toNat (l ++ [(cl.length : Int)]), cl ++ [(y, Str.ofString "t", [])]) := by
          change (if Str.ofString "tuck" = Str.ofString "tuck" then (hs.set (Lw.hk r a).toNat (hAt hs (Lw.hk r a) ++ [(cl.length : Int)]), cl ++ [(y, Str.ofString "t", [])]) else (hs.set (Lw.hk r a).toNat [(cl.length : Int)], cl ++ [(y, if r = Str.ofString "f" then Str.ofString "k" else Str.ofString "p", hAt hs (Lw.hk r a))])) = _
          rw [if_pos rfl, hL]
        rw [hdo]
        exact B.put1 h32 hr h0 h1
  | mv r a t =>
    obtain ⟨hr, h0, h1, h2, h3⟩ := id hd
    have hbk := cH (r := r) h0 h1
    have hbk2 := cH (r := other r) h2 h3
    have hl := B.lk r a hr h0 h1
    have hg := B.lk (other r) t (mD r) h2 h3
    have hm := h4 _ (fZ (hs := hs) (i := hk r a) (by omega))
    have hm2 := h4 _ (fZ (hs := hs) (i := hk (other r) t) (by omega))
    by_cases f : a - t > 2 ∨ t - a > 2
    · have hw : cj hs (.mv r a t) = some (Str.ofString "far") := if_pos f
      refine ⟨(fun z => by rw [hw] at z; cases z), fun w z => ?_⟩
      rw [hw] at z
      cases z
      rw [sE]
      exact nH (gE (qM hd f) (qM hd f))
    · by_cases e : hAt hs (hk r a) = []
      · have hw : cj hs (.mv r a t) = some (Str.ofString "empty") := (if_neg f).trans (if_pos e)
        refine ⟨(fun z => by rw [hw] at z; cases z), fun w z => ?_⟩
        rw [hw] at z
        cases z
        rw [oZ]
        rw [e] at hl
        exact nH (gE (tX (eI b) hd f hl) (tX (iM b) hd f hl))
      · by_cases g : (hAt hs (hk r a)).length + (hAt hs (hk (other r) t)).length > 4
        · have hw : cj hs (.mv r a t) = some (Str.ofString "full") := (if_neg f).trans ((if_neg e).trans (if_pos g))
          refine ⟨(fun z => by rw [hw] at z; cases z), fun w z => ?_⟩
          rw [hw] at z
          cases z
          rw [nQ]
          exact nH (gE (rY (eI b) hd f hl e hg (by omega) (by omega)) (rY (iM b) hd f hl e hg (by omega) (by omega)))
        · have hw : cj hs (.mv r a t) = none := (if_neg f).trans ((if_neg e).trans (if_neg g))
          refine ⟨fun _ => ⟨_, wF (yx hd f hl e hg (by omega) hk1 hb1), ?_⟩, (fun w z => by rw [hw] at z; cases z)⟩
          exact B.put2 h32 hr h0 h1 h2 h3 (uw hr)
end Lw
namespace Lw
open PySem L2 DL
section
variable {hs : List (List Int)} {cl : List Lp} {ds : List Dd} {b : Bd} {d : Dd} {r : Str} {a : Int}
theorem BS.hook (B : BS hs cl ds b) (hr : cK r) (h0 : 0 ≤ a) (h1 : a ≤ 15) : b7 [b.d, .str r, .int a] = .own (iD (hAt hs (hk r a))) := by
  unfold b7 sx
  have c : aX 0 2 (ae (gn (ae (aa 1) (ae (aa 2) ah))) ah) cn [.sh b.d, .sh (.str r), .sh (.int a)] = .ok (.val (tI (hAt hs (hk r a)))) [.sh b.d, .sh (.str r), .sh (.int a)] :=
    eD (b := b) (own := false) (aq (dS (r := r) (k := a) (aq (ai rfl) (aq (ai rfl) aB)) rfl) aB) rfl rfl rfl (by
      change roR false (cn [b.d, kD (r, a)]) _ = _
      rw [su, B.lk r a hr h0 h1]
      rfl)
  exact lP (bQ (cy (aq c aB) rfl rfl) lD)
theorem BS.cloth (B : BS hs cl ds b) : dG [b.d] = .own (clD cl) := by
  rw [← B.as]
  unfold dG qO
  exact lP (bQ (cy (aq (rfl : fR 0 1 _ = .ok (.val (.lst b.as)) _) aB) rfl rfl) lD)
noncomputable def dsD (ds : List Dd) : List D := ds.map Dd.D
theorem tZ : ∀ (ds : List Dd) (ps : List (List D)), ps.length = ds.length → (List.zipWith gf ds ps).map (fun x => match x with | .tup (y :: _) => y | x => x) = dsD ds
  | [], [], _ => rfl
  | [], _ :: _, h => by cases h
  | _ :: _, [], h => by cases h
  | d :: ds, p :: ps, h => by
    rw [List.zipWith_cons_cons, List.map_cons, tZ ds ps (Nat.succ.inj h)]
    rfl
theorem BS.done (B : BS hs cl ds b) (hn : ds.length < 10000) : dO [b.d] = .own (dsD ds) := by
  obtain ⟨ps, h1, h2⟩ := B.ps
  have c : bK (bw 0) (.ret true) (af (aa 0) (fC (.int 0)) gIx) b.bs [.no] [] = some (dsD ds) := by
    rw [← tZ ds ps h1, h2]
    refine comp_map (g := fun x => match x with | .tup (y :: _) => y | x => x) _ .no (by rw [List.length_zipWith, h1]; unfold sizeLine; omega) fun x hx => ?_
    obtain ⟨i, hi, e⟩ := List.mem_iff_getElem.mp hx
    rw [List.getElem_zipWith] at e
    subst e
    have hi1 : i < ds.length := by rw [List.length_zipWith] at hi; omega
    have hi2 : i < ps.length := by omega
    unfold fN DM.bd
    have h : (af (aa 0) (fC (.int 0)) gIx) [.sh (gf ds[i] ps[i])] = .ok (.val ds[i].D) [.sh (gf ds[i] ps[i])] := ak (ai rfl) aj rfl rfl (qH (pB _ _))
    rw [h]
    rfl
  unfold dO tF
  exact lP (bQ (kh (mV (rfl : fR 0 2 _ = .ok (.val (.lst b.bs)) _) rfl rfl) c) lD)
theorem yG : ∀ d : Dd, okD 7 d.D = true
  | .ky _ _ _ _ => rfl
  | .mv _ _ _ => rfl
theorem Bw (ds : List Dd) : gNe (.lst (dsD ds)) (.lst (dsD ds)) = some (.val (.bl false)) := by
  refine eR (ei 8 _ ?_)
  change (dsD ds).all (okD 7) = true
  unfold dsD
  rw [List.all_map]
  exact List.all_eq_true.mpr fun d _ => yG d
theorem nP : ∀ ds : List Dd, cF (dsD ds) = true
  | [] => rfl
  | .ky _ _ _ _ :: ds => by change (true && cF (dsD ds)) = true; rw [nP ds]; rfl
  | .mv _ _ _ :: ds => by change (true && cF (dsD ds)) = true; rw [nP ds]; rfl
noncomputable def bSt : DM Fl := (ax (fIf (bO (aA (aR 2 (ae (aX 0 3 (ae (fC (.str "f")) (ae (aa 4) ah)) b7) (ae (af (aa 1) (aa 4) gIx) ah)) gb))) (aF (fC (.bl false))) aM)
    (fIf (bO (aA (aR 2 (ae (aX 0 3 (ae (fC (.str "b")) (ae (aa 4) ah)) b7) (ae (af (aa 1) (af (fC (.int 16)) (aa 4) bj) gIx) ah)) gb))) (aF (fC (.bl false))) aM))
theorem zr (B : BS hs cl ds b) (h32 : hs.length = 32) (h4 : ∀ l ∈ hs, l.length ≤ 4) (x2 x3 : Sl) (k : Nat) (hk' : k < 16) : bSt [.sh b.d, .sh (.lst (lvD hs)), x2, x3, .sh (.int (k : Int))] = .ok .nx [.sh b.d, .sh (.lst (lvD hs)), x2, x3, .sh (.int (k : Int))] := by
  have bf : ¬ Str.ofString "b" = Str.ofString "f" := by decide +kernel
  have f1 := B.hook (r := Str.ofString "f") (a := (k : Int)) (.inl rfl) (by omega) (by omega)
  have f2 := B.hook (r := Str.ofString "b") (a := (k : Int)) (.inr rfl) (by omega) (by omega)
  have e1 : hk (Str.ofString "f") (k : Int) = (k : Int) := if_pos rfl
  have e2 : hk (Str.ofString "b") (k : Int) = 16 + (k : Int) := if_neg bf
  rw [e1] at f1
  rw [e2] at f2
  have i1 : gIx (.lst (lvD hs)) (.int (k : Int)) = some (.val (.lst (iD (hAt hs (k : Int))))) := jT (by omega) (gB (by omega))
  have i2 : gIx (.lst (lvD hs)) (.int (16 + (k : Int))) = some (.val (.lst (iD (hAt hs (16 + (k : Int)))))) := jT (by omega) (gB (by omega))
  have a1 := qI (hAt hs (k : Int)) (Nat.le_trans (h4 _ (fZ (by omega))) (by omega))
  have a2 := qI (hAt hs (16 + (k : Int))) (Nat.le_trans (h4 _ (fZ (by omega))) (by omega))
  unfold bSt
  refine av (aJ (eX (aK (eG (aq (eD (b := b) (own := false) (Z := .ok (.own (iD (hAt hs (k : Int)))) _) (aq aj (aq (ai rfl) aB)) rfl rfl rfl (by
    change roR false (b7 [b.d, .str (Str.ofString "f"), .int (k : Int)]) _ = _
    rw [f1]
    rfl)) (aq (ak (ai rfl) (ai rfl) rfl rfl i1) aB)) rfl rfl a1) rfl)) (aW rfl bh)) (az ?_)
  exact aJ (eX (aK (eG (aq (eD (b := b) (own := false) (Z := .ok (.own (iD (hAt hs (16 + (k : Int))))) _) (aq aj (aq (ai rfl) aB)) rfl rfl rfl (by
    change roR false (b7 [b.d, .str (Str.ofString "b"), .int (k : Int)]) _ = _
    rw [f2]
    rfl)) (aq (ak (ai rfl) (ak aj (ai rfl) rfl rfl iK) rfl rfl i2) aB)) rfl rfl a2) rfl)) (aW rfl bh)
theorem pH (B : BS hs cl ds b) (h32 : hs.length = 32) (h4 : ∀ l ∈ hs, l.length ≤ 4) (x2 x3 : Sl) : ∀ (ks : List D) (x4 : Sl), (∀ d ∈ ks, ∃ k : Nat, k < 16 ∧ d = .int (k : Int)) → ∃ y4, cX (bw 4) bSt ks [.sh b.d, .sh (.lst (lvD hs)), x2, x3, x4] = .ok .nx [.sh b.d, .sh (.lst (lvD hs)), x2, x3, y4]
  | [], x4, _ => ⟨x4, rfl⟩
  | d :: ks, x4, h => by
    obtain ⟨k, hk', rfl⟩ := h d List.mem_cons_self
    obtain ⟨y4, e⟩ := pH B h32 h4 x2 x3 ks (.sh (.int (k : Int))) fun d hd => h d (List.mem_cons_of_mem _ hd)
    exact ⟨y4, kB rfl (zr B h32 h4 x2 x3 k hk') e⟩
theorem BS.stands (B : BS hs cl ds b) (h32 : hs.length = 32) (h4 : ∀ l ∈ hs, l.length ≤ 4) (hc : cl.length ≤ 1000) (hh : ∀ l ∈ cl, l.2.2.length ≤ 1000) (hn : ds.length < 10000) : eY [b.d, .lst (lvD hs), .lst (clD cl), .lst (dsD ds)] = .ok (.bl true) := by
  have a1 := uq cl hc hh
  have b1 := B.cloth
  have b2 := B.done hn
  obtain ⟨y4, e⟩ := pH B h32 h4 (.sh (.lst (clD cl))) (.sh (.lst (dsD ds))) (b9 0 16) .no fun d hd => oY hd
  unfold bSt at e
  unfold eY rm
  refine kT (av (aJ (nv (eX (aK (eG (aq (eD (b := b) (own := false) (Z := .ok (.own (clD cl)) _) aB rfl rfl rfl (by
    change roR false (dG [b.d]) _ = _
    rw [b1]
    rfl)) (aq (ai rfl) aB)) rfl rfl a1) rfl)) (aK (ak (eD (b := b) (own := false) (Z := .ok (.own (dsD ds)) _) aB rfl rfl rfl (by
    change roR false (dO [b.d]) _ = _
    rw [b2]
    rfl)) (ai rfl) rfl rfl (Bw ds)) rfl)) (aW rfl bh)) (az (av (mf (kM (aq aj aB) rfl rfl) e) (az (bQ aj cN)))))
noncomputable def hA : Str → DM Fl := (fun c => match gN c with | some true => fun δ => gP 2 ((aF (bu (ae (fC (.str "far")) (ae (bW (aR 1 (ae (aa 2) ah) gp) (bW (cI (fUn (aa 2) (cG gR))) (cI (fUn (aa 2) (cG gQ))))) ah)))) (δ.set 2 (.sh (.exc c)))) | some false => (fun c => match gR c with | some true => fun δ => gP 2 ((aF (bu (ae (fC (.str "empty")) (ae (bW (aR 1 (ae (aa 2) ah) gp) (bW (cI (fUn (aa 2) (cG gN))) (cI (fUn (aa 2) (cG gQ))))) ah)))) (δ.set 2 (.sh (.exc c)))) | some false => (fun c => match gQ c with | some true => fun δ => gP 2 ((aF (bu (ae (fC (.str "full")) (ae (bW (aR 1 (ae (aa 2) ah) gp) (bW (cI (fUn (aa 2) (cG gR))) (cI (fUn (aa 2) (cG gN))))) ah)))) (δ.set 2 (.sh (.exc c)))) | some false => (fun _ _ => .un) c | none => fun _ => .un) c | none => fun _ => .un) c | none => fun _ => .un)
theorem AJ (s : Sl) (x : D) : hA "TooFar" [s, .sh x, .no] = .ok (.rt (.tup [.str "far", .bl true])) [s, .sh x, .no] := by kernel_rfl
theorem uI (s : Sl) (x : D) : hA "Empty" [s, .sh x, .no] = .ok (.rt (.tup [.str "empty", .bl true])) [s, .sh x, .no] := by kernel_rfl
theorem xD (s : Sl) (x : D) : hA "Overfull" [s, .sh x, .no] = .ok (.rt (.tup [.str "full", .bl true])) [s, .sh x, .no] := by kernel_rfl
end
end Lw
namespace DL
open PySem L2
end DL
namespace Lw
open PySem L2 DL
theorem Bed.held {hs : List (List Int)} {cl : List Lp} {n : Nat} (h : Bed hs cl n) : ∀ l ∈ cl, l.2.2.length ≤ 1000 := by
  induction h with
  | start => exact fun l hl => by cases hl
  | skip h ih => exact ih
  | @step hs cl n d h hd hw ih =>
    obtain ⟨h32, h4, _⟩ := h.size
    cases d with
    | mv r a t => exact ih
    | ky k r a y =>
      obtain ⟨hk', hr, h0, h1, hy⟩ := hd
      have hb := cH (r := r) h0 h1
      have hm := h4 _ (fZ (hs := hs) (i := hk r a) (by omega))
      intro l hl
      have hl : l ∈ (if k = Str.ofString "tuck" then (hs.set (hk r a).toNat (hAt hs (hk r a) ++ [(cl.length : Int)]), cl ++ [(y, Str.ofString "t", [])]) else (hs.set (hk r a).toNat [(cl.length : Int)], cl ++ [(y, if r = Str.ofString "f" then Str.ofString "k" else Str.ofString "p", hAt hs (hk r a))])).2 := hl
      split at hl
      · rcases List.mem_append.mp hl with z | z
        · exact ih l z
        · rw [List.mem_singleton.mp z]; exact Nat.zero_le _
      · rcases List.mem_append.mp hl with z | z
        · exact ih l z
        · rw [List.mem_singleton.mp z]; change (hAt hs (hk r a)).length ≤ 1000; omega
theorem yy {hs : List (List Int)} {d : Dd} {w : Str} (h : cj hs d = some w) : w = Str.ofString "far" ∨ w = Str.ofString "empty" ∨ w = Str.ofString "full" := by
  cases d with
  | ky k r a y =>
    have h : (if k = Str.ofString "knit" ∧ hAt hs (hk r a) = [] then some (Str.ofString "empty") else if k = Str.ofString "tuck" ∧ (hAt hs (hk r a)).length = 4 then some (Str.ofString "full") else none) = some w := h
    split at h
    · cases h; exact .inr (.inl rfl)
    · split at h
      · cases h; exact .inr (.inr rfl)
      · cases h
  | mv r a t =>
    have h : (if a - t > 2 ∨ t - a > 2 then some (Str.ofString "far") else if hAt hs (hk r a) = [] then some (Str.ofString "empty") else if (hAt hs (hk r a)).length + (hAt hs (hk (other r) t)).length > 4 then some (Str.ofString "full") else none) = some w := h
    split at h
    · cases h; exact .inl rfl
    · split at h
      · cases h; exact .inr (.inl rfl)
      · split at h
        · cases h; exact .inr (.inr rfl)
        · cases h
section
variable {hs : List (List Int)} {cl : List Lp} {ds : List Dd} {b b' : Bd} {d : Dd} {x : D} {c : Str} {n : Nat}
theorem zK (h : cQ b [d.D] = .ok x b') : dW b [d.D] = .ok (.tup [.str "done", x]) b' := by
  have k : fS 0 2 (ae (aa 1) ah) cQ [b.sl, .sh d.D, .no] = .ok (.inr (.val x)) [b'.sl, .sh d.D, .no] :=
    rp (b := b) (own := true) (aq (ai rfl) aB) rfl rfl rfl (by rw [h]; rfl)
  unfold dW nJ
  refine fL (δ1 := [b'.sl, .sh d.D, .no]) ?_ rfl
  change jq (jm (.str "done") (fS 0 2 (ae (aa 1) ah) cQ)) hA [b.sl, .sh d.D, .no] = _
  unfold jq jm DM.bd
  simp only [k]
  rfl
theorem nL (h : cQ b [d.D] = .er c) (hh : hA c [b.sl, .sh d.D, .no] = .ok (.rt x) [b.sl, .sh d.D, .no]) : dW b [d.D] = .ok x b := by
  have k : fS 0 2 (ae (aa 1) ah) cQ [b.sl, .sh d.D, .no] = .ok (.inl c) [b.sl, .sh d.D, .no] :=
    rp (b := b) (own := true) (aq (ai rfl) aB) rfl rfl rfl (by rw [h]; rfl)
  unfold dW nJ
  refine fL (δ1 := [b.sl, .sh d.D, .no]) ?_ rfl
  change jq (jm (.str "done") (fS 0 2 (ae (aa 1) ah) cQ)) hA [b.sl, .sh d.D, .no] = _
  unfold jq jm DM.bd
  simp only [k]
  exact hh
theorem wd (B : BS hs cl ds b) (hB : Bed hs cl n) (hc : n < 1000) (hn : ds.length < 1000) (hd : d.ok) :
    (cj hs d = none → ∃ b', dW b [d.D] = .ok (.tup [.str "done", dz cl d]) b' ∧ BS (doF hs cl d).1 (doF hs cl d).2 (ds ++ [d]) b') ∧ (∀ w, cj hs d = some w → dW b [d.D] = .ok (.tup [.str w, .bl true]) b) := by
  obtain ⟨h32, h4, hl⟩ := hB.size
  obtain ⟨p1, p2⟩ := Bq B h32 h4 (by omega) hn hd
  refine ⟨fun z => ?_, fun w z => ?_⟩
  · obtain ⟨b', e1, e2⟩ := p1 z
    exact ⟨b', zK e1, e2⟩
  · have e := p2 w z
    rcases yy z with rfl | rfl | rfl
    · rw [sE] at e; exact nL e (AJ _ _)
    · rw [oZ] at e; exact nL e (uI _ _)
    · rw [nQ] at e; exact nL e (xD _ _)
end
theorem nt (a b : List Dd) : dsD (a ++ b) = dsD a ++ dsD b := List.map_append
theorem kd (a : List Dd) : (dsD a).length = a.length := List.length_map _
end Lw
namespace Lw
open PySem L2 DL
theorem Ay : bK (bw 0) (.ret true) (bF ah) (b9 0 32) [.no] [] = some (lvD (List.replicate 32 [])) := by
  rw [comp_map (g := fun _ => .lst []) _ .no (by rw [vp]; unfold sizeLine; omega) ?_]
  · rfl
  · intro d hd; rfl
end Lw
namespace Lw
open PySem L2 DL
noncomputable def bPl : DM Fl := (ax (aL 6 (cJ 2 [0] (ae (aa 2) (ae (aa 5) ah)) eZ))
    (ax (aL 7 (bz 0 2 (ae (aa 5) ah) dW))
    (fIf (aA (af (aa 6) (fC .non) ft)) (ax (fIf (bA (aA (af (af (aa 7) (fC (.int 0)) gIx) (fC (.str "done")) gNe)) (cO (aA (af (af (aa 5) (fC (.int 0)) gIx) (fC (.str "move")) gEq)) (aA (af (af (aa 7) (fC (.int 1)) gIx) (fC .non) j9)))) (aF (fC .non)) aM)
    (ax (fIf (cO (aA (af (af (aa 5) (fC (.int 0)) gIx) (fC (.str "move")) gNe)) (bA (bO (aA (aR 1 (ae (af (aa 7) (fC (.int 1)) gIx) ah) dr))) (aA (af (af (aa 7) (fC (.int 1)) gIx) (fCB (ae (aa 3) ah) aZ) gNe)))) (aF (fC .non)) aM)
    (ax (gx (cJ 3 [0, 1] (ae (aa 2) (ae (aa 3) (ae (aa 5) ah))) eW))
    (dU 4 (aa 5))))) (fIf (bA (aA (af (af (aa 7) (fC (.int 0)) gIx) (aa 6) gNe)) (aA (af (af (aa 7) (fC (.int 1)) gIx) (fC (.bl true)) lR))) (aF (fC .non)) aM))))
noncomputable abbrev S12 (b : Bd) (s1 : Sl) (hs : List (List Int)) (cl : List Lp) (ds : List Dd) (s5 s6 s7 : Sl) : DSt := [b.sl, s1, .ow (lvD hs), .ow (clD cl), .ow (dsD ds), s5, s6, s7]
section
variable {s1 s5 s6 s7 : Sl} {hs : List (List Int)} {cl : List Lp} {ds : List Dd} {b : Bd} {d : Dd} {n : Nat}
theorem asked (hc : cl.length ≤ 1000) (hd : d.ok) : (fIf (bA (aA (af (af (aa 7) (fC (.int 0)) gIx) (fC (.str "done")) gNe)) (cO (aA (af (af (aa 5) (fC (.int 0)) gIx) (fC (.str "move")) gEq)) (aA (af (af (aa 7) (fC (.int 1)) gIx) (fC .non) j9)))) (aF (fC .non)) aM) (S12 b s1 hs cl ds (.sh d.D) s6 (.sh (.tup [.str "done", dz cl d]))) = .ok .nx (S12 b s1 hs cl ds (.sh d.D) s6 (.sh (.tup [.str "done", dz cl d]))) ∧
    (fIf (cO (aA (af (af (aa 5) (fC (.int 0)) gIx) (fC (.str "move")) gNe)) (bA (bO (aA (aR 1 (ae (af (aa 7) (fC (.int 1)) gIx) ah) dr))) (aA (af (af (aa 7) (fC (.int 1)) gIx) (fCB (ae (aa 3) ah) aZ) gNe)))) (aF (fC .non)) aM) (S12 b s1 hs cl ds (.sh d.D) s6 (.sh (.tup [.str "done", dz cl d]))) = .ok .nx (S12 b s1 hs cl ds (.sh d.D) s6 (.sh (.tup [.str "done", dz cl d]))) := by
  have a0 : gIx (.tup [.str "done", dz cl d]) (.int 0) = some (.val (.str "done")) := rfl
  have a1 : gIx (.tup [.str "done", dz cl d]) (.int 1) = some (.val (dz cl d)) := rfl
  have q0 : gNe (.str "done") (.str "done") = some (.val (.bl false)) := eR (ei 8 _ rfl)
  cases d with
  | mv r a t =>
    have i0 : gIx (Dd.mv r a t).D (.int 0) = some (.val (.str "move")) := rfl
    have m1 : gEq (.str (Str.ofString "move")) (.str (Str.ofString "move")) = some (.val (.bl true)) := cg (ei 8 _ rfl)
    have m2 : gNe (.str (Str.ofString "move")) (.str (Str.ofString "move")) = some (.val (.bl false)) := eR (ei 8 _ rfl)
    exact ⟨aJ (lN (aK (ak (ak (ai rfl) aj rfl rfl a0) aj rfl rfl q0) rfl) rfl (sW (aK (ak (ak (ai rfl) aj rfl rfl i0) aj rfl rfl m1) rfl) rfl (aK (ak (ak (ai rfl) aj rfl rfl a1) aj rfl rfl rfl) rfl))) (aW rfl bh),
      aJ (r6 (aK (ak (ak (ai rfl) aj rfl rfl i0) aj rfl rfl m2) rfl) rfl) (aW rfl bh)⟩
  | ky k r a y =>
    have i0 : gIx (Dd.ky k r a y).D (.int 0) = some (.val (.str k)) := rfl
    have m1 : gEq (.str k) (.str (Str.ofString "move")) = some (.val (.bl false)) := by rcases hd.1 with rfl | rfl <;> kernel_rfl
    have m2 : gNe (.str k) (.str (Str.ofString "move")) = some (.val (.bl true)) := by rcases hd.1 with rfl | rfl <;> kernel_rfl
    have w1 := n8 (cl.length : Int)
    have g3 : aZ [.lst (clD cl)] = some (.val (.int (cl.length : Int))) := by
      change some (DV.val (.int ((clD cl).length : Int))) = _
      rw [iB]
    have q3 : gNe (.int (cl.length : Int)) (.int (cl.length : Int)) = some (.val (.bl false)) := eR (ei 8 _ rfl)
    have a1 : gIx (.tup [.str "done", dz cl (.ky k r a y)]) (.int 1) = some (.val (.int (cl.length : Int))) := rfl
    exact ⟨aJ (lN (aK (ak (ak (ai rfl) aj rfl rfl a0) aj rfl rfl q0) rfl) rfl (r6 (aK (ak (ak (ai rfl) aj rfl rfl i0) aj rfl rfl m1) rfl) rfl)) (aW rfl bh),
      aJ (sW (aK (ak (ak (ai rfl) aj rfl rfl i0) aj rfl rfl m2) rfl) rfl (lN (eX (aK (eG (aq (ak (ai rfl) aj rfl rfl a1) aB) rfl rfl w1) rfl)) rfl (aK (ak (ak (ai rfl) aj rfl rfl a1) (cy (aq (dA rfl) aB) rfl g3) rfl rfl q3) rfl))) (aW rfl bh)⟩
theorem yU (hB : Bed hs cl n) (B : BS hs cl ds b) (hn : n < 900) (hl : ds.length < 900) (hd : d.ok) : ∃ hs' cl' ds' b' n' x6 x7, Bed hs' cl' n' ∧ BS hs' cl' ds' b' ∧ n' ≤ n + 1 ∧ ds'.length ≤ ds.length + 1 ∧
    bPl (S12 b s1 hs cl ds (.sh d.D) s6 s7) = .ok .nx (S12 b' s1 hs' cl' ds' (.sh d.D) x6 x7) := by
  obtain ⟨h32, h4, hcl⟩ := hB.size
  have gw := uK hs h32 d hd
  have gdo := vl hs cl h32 (fun l hl => by have := h4 l hl; omega) (by omega) d hd
  obtain ⟨p1, p2⟩ := wd B hB (by omega) (by omega) hd
  have k1 : (cJ 2 [0] (ae (aa 2) (ae (aa 5) ah)) eZ) (S12 b s1 hs cl ds (.sh d.D) s6 s7) = .ok (.val (j2 (cj hs d))) (S12 b s1 hs cl ds (.sh d.D) s6 s7) :=
    iS (is := [0]) (js := [2]) (mss := [lvD hs]) (ds := [.non, d.D]) (aq (dA rfl) (aq (ai rfl) aB)) rfl (by decide) rfl rfl rfl gw jn
  unfold bPl
  cases hw : cj hs d with
  | none =>
    obtain ⟨b', e1, B'⟩ := p1 hw
    have hB' := hB.step hd hw
    rw [hw] at k1
    have k2 : (bz 0 2 (ae (aa 5) ah) dW) (S12 b s1 hs cl ds (.sh d.D) (.sh .non) s7) = .ok (.val (.tup [.str "done", dz cl d])) (S12 b' s1 hs cl ds (.sh d.D) (.sh .non) s7) :=
      dt (b := b) (own := true) (aq (ai rfl) aB) rfl rfl rfl (by rw [e1]; rfl)
    have k3 : (cJ 3 [0, 1] (ae (aa 2) (ae (aa 3) (ae (aa 5) ah))) eW) (S12 b' s1 hs cl ds (.sh d.D) (.sh .non) (.sh (.tup [.str "done", dz cl d]))) = .ok (.val .non) (S12 b' s1 (doF hs cl d).1 (doF hs cl d).2 ds (.sh d.D) (.sh .non) (.sh (.tup [.str "done", dz cl d]))) :=
      iS (is := [0, 1]) (js := [2, 3]) (mss := [lvD hs, clD cl]) (ds := [.non, .non, d.D]) (aq (dA rfl) (aq (dA rfl) (aq (ai rfl) aB))) rfl (by decide) rfl rfl rfl gdo jn
    obtain ⟨q1, q2⟩ := asked (b := b') (s1 := s1) (hs := hs) (ds := ds) (s6 := .sh .non) (cl := cl) (d := d) (by omega) hd
    refine ⟨_, _, ds ++ [d], b', n + 1, .sh .non, .sh (.tup [.str "done", dz cl d]), hB', B', Nat.le_refl _, by rw [List.length_append]; exact Nat.le_refl _, ?_⟩
    refine av (aS k1 rfl) (az (av (aS k2 rfl) (az (aJ (aK (ak (ai rfl) aj rfl rfl rfl) rfl) (bS rfl (av q1 (az (av q2 (az (av (lC k3) (az ?_)))))))))))
    unfold S12
    rw [nt ds [d]]
    exact lq (i := 4) (es := dsD ds) (ds := dsD ds) rfl (ai rfl) rfl rfl (by rw [kd]; unfold sizeLine; omega)
  | some w =>
    have e1 := p2 w hw
    rw [hw] at k1
    have k2 : (bz 0 2 (ae (aa 5) ah) dW) (S12 b s1 hs cl ds (.sh d.D) (.sh (.str w)) s7) = .ok (.val (.tup [.str w, .bl true])) (S12 b s1 hs cl ds (.sh d.D) (.sh (.str w)) s7) :=
      dt (b := b) (own := true) (aq (ai rfl) aB) rfl rfl rfl (by rw [e1]; rfl)
    refine ⟨hs, cl, ds, b, n, .sh (.str w), .sh (.tup [.str w, .bl true]), hB, B, Nat.le_succ _, Nat.le_succ _, ?_⟩
    exact av (aS k1 rfl) (az (av (aS k2 rfl) (az (aJ (aK (ak (ai rfl) aj rfl rfl rfl) rfl) (aW rfl (aJ (nv (aK (ak (ak (ai rfl) aj rfl rfl (qH (pB _ _))) (ai rfl) rfl rfl (eR (ei 8 _ rfl))) rfl) (aK (ak (ak (ai rfl) aj rfl rfl rfl) aj rfl rfl rfl) rfl)) (aW rfl bh)))))))
theorem p8 (s1 : Sl) : ∀ (es : List Dd) (n : Nat) (hs : List (List Int)) (cl : List Lp) (ds : List Dd) (b : Bd) (s5 s6 s7 : Sl), Bed hs cl n → BS hs cl ds b → n + es.length < 900 → ds.length + es.length < 900 → (∀ d ∈ es, d.ok) → ∃ hs' cl' ds' b' n' y5 y6 y7, Bed hs' cl' n' ∧ BS hs' cl' ds' b' ∧ n' ≤ n + es.length ∧ ds'.length ≤ ds.length + es.length ∧
    cX (bw 5) bPl (dsD es) (S12 b s1 hs cl ds s5 s6 s7) = .ok .nx (S12 b' s1 hs' cl' ds' y5 y6 y7)
  | [], n, hs, cl, ds, b, s5, s6, s7, hB, B, _, _, _ => ⟨hs, cl, ds, b, n, s5, s6, s7, hB, B, Nat.le_refl _, Nat.le_refl _, rfl⟩
  | d :: es, n, hs, cl, ds, b, s5, s6, s7, hB, B, h1, h2, hd => by
    rw [List.length_cons] at h1 h2
    obtain ⟨hs1, cl1, ds1, b1, n1, x6, x7, hB1, B1, l1, l2, e1⟩ := yU (s1 := s1) (s6 := s6) (s7 := s7) hB B (by omega) (by omega) (hd d List.mem_cons_self)
    obtain ⟨hs2, cl2, ds2, b2, n2, y5, y6, y7, hB2, B2, m1, m2, e2⟩ := p8 s1 es n1 hs1 cl1 ds1 b1 (.sh d.D) x6 x7 hB1 B1 (by omega) (by omega) fun x hx => hd x (List.mem_cons_of_mem _ hx)
    exact ⟨hs2, cl2, ds2, b2, n2, y5, y6, y7, hB2, B2, by rw [List.length_cons]; omega, by rw [List.length_cons]; omega, kB rfl e1 e2⟩
end
noncomputable abbrev tri (hs : List (List Int)) (cl : List Lp) (ds : List Dd) : D := .tup [.lst (lvD hs), .lst (clD cl), .lst (dsD ds)]
theorem pI (es : List Dd) (hd : ∀ d ∈ es, d.ok) (hl : es.length ≤ 100) : ∃ hs cl ds b n, Bed hs cl n ∧ BS hs cl ds b ∧ n ≤ 100 ∧ ds.length ≤ 100 ∧ fj ⟨[], [], [], []⟩ [.lst (dsD es)] = .ok (tri hs cl ds) b := by
  obtain ⟨hs, cl, ds, b, n, y5, y6, y7, hB, B, l1, l2, e⟩ := p8 (.sh (.lst (dsD es))) es 0 (List.replicate 32 []) [] [] ⟨[], [], [], []⟩ .no .no .no .start BS.start (by omega) (by change 0 + _ < _; omega) hd
  refine ⟨hs, cl, ds, b, n, hB, B, by omega, by change ds.length ≤ 0 + _ at l2; omega, ?_⟩
  have z0 : ([] : List D).length ≤ sizeLine := by change 0 ≤ sizeLine; unfold sizeLine; omega
  have gi : jE (.lst (dsD es)) = some (dsD es) := rfl
  have c1 := Ay
  unfold bPl at e
  unfold fj sD
  refine fL (δ1 := [b.sl, .sh (.lst (dsD es)), .sh (.lst (lvD hs)), .sh (.lst (clD cl)), .sh (.lst (dsD ds)), y5, y6, y7]) ?_ rfl
  refine av (R1 := .ok .nx [Bd.sl ⟨[], [], [], []⟩, .sh (.lst (dsD es)), .ow (lvD (List.replicate 32 [])), .no, .no, .no, .no, .no]) (ko (kh (kM (aq aj aB) rfl (jC (by omega) (by omega))) c1)) (az ?_)
  refine av (ko (eu aB rfl z0)) (az ?_)
  refine av (ko (eu aB rfl z0)) (az ?_)
  refine av (mf (mV (ai rfl) rfl gi) e) (az ?_)
  change (aF (bu (ae (aa 2) (ae (aa 3) (ae (aa 4) ah))))) [b.sl, .sh (.lst (dsD es)), .sh (.lst (lvD hs)), .sh (.lst (clD cl)), .sh (.lst (dsD ds)), y5, y6, y7] = _
  exact bQ (d8 (aq (ai rfl) (aq (ai rfl) (aq (ai rfl) aB))) rfl (by change 3 ≤ sizeLine; unfold sizeLine; omega)) cN
end Lw
namespace DL
open PySem L2
section
variable {t : D → DSt → Option DSt} {fc : DM Bool} {fe : DM DV} {d v : D} {ds out : List D} {δ δ1 δ2 δ3 : DSt} {f : DM DV} {r : DM (List (List D))} {xss : List (List D)} {i : Nat}
theorem uT (h1 : t d δ = some δ1) (h2 : fc δ1 = .ok true δ2) (h3 : fN fe δ2 = .ok (.val v) δ3) (h4 : out.length < sizeLine) : bK t fc fe (d :: ds) δ out = bK t fc fe ds δ3 (out ++ [v]) := by
  conv => lhs; unfold bK
  simp only [h1, h2, h3, if_pos h4]
theorem yz (h1 : t d δ = some δ1) (h2 : fc δ1 = .ok false δ2) : bK t fc fe (d :: ds) δ out = bK t fc fe ds δ2 out := by
  conv => lhs; unfold bK
  simp only [h1, h2]
theorem nh (h1 : f δ = .ok (.own ds) δ1) (h2 : r δ1 = .ok xss δ2) : dm f r δ = .ok (ds :: xss) δ2 := by unfold dm DM.bd DM.ret; simp only [h1, h2]
theorem zP (h : r δ = .ok xss δ1) (hz : xss.length ≤ sizeLine) : ic i r δ = .ok .nx (δ1.set i (.nw xss)) := by unfold ic DM.bd; simp only [h, if_pos hz]
end
end DL
namespace Lw
open PySem L2 DL
theorem rdc (s : Int) (n : Nat) : b9 s (n + 1) = .int s :: b9 (s + 1) n := by
  unfold b9
  rw [List.range_succ_eq_map, List.map_cons, List.map_map]
  congr 1
  · change D.int (s + ((0 : Nat) : Int)) = _
    rw [show s + ((0 : Nat) : Int) = s by omega]
  · apply List.map_congr_left
    intro k _
    change D.int (s + ((k + 1 : Nat) : Int)) = D.int (s + 1 + (k : Int))
    rw [show s + ((k + 1 : Nat) : Int) = s + 1 + (k : Int) by omega]
theorem tY : ∀ cl : List Lp, cF (clD cl) = true
  | [] => rfl
  | l :: cl => by
    change ((true && (true && (cF (iD l.2.2) && true))) && cF (clD cl)) = true
    rw [kJ, tY cl]; rfl
theorem lA {es : List D} {δ : DSt} (h : cF es = true) : roR true (.own es) δ = .ok (.own es) δ := by
  change (if (!true || cF es) = true then Rs.ok (DV.own es) δ else .un) = _
  rw [h]; rfl
theorem xu {es : List Dd} {i : Int} {d : Dd} (h0 : 0 ≤ i) (h : es[i.toNat]? = some d) : gIx (.lst (dsD es)) (.int i) = some (.val d.D) := lJ (mJ h0 (by unfold dsD; rw [List.getElem?_map, h]; rfl))
noncomputable def fcE : DM Bool := (aA (af (af (aa 0) (fC (.int 2)) bD) (fC (.int 1)) gEq))
noncomputable def feE : DM DV := (af (aa 1) (aa 0) gIx)
theorem oO (es : List Dd) (hes : ∀ d ∈ es, d.ok) (he : es.length ≤ 100) : ∀ (m k : Nat) (out : List Dd) (x0 : Sl), k + m = es.length → out.length ≤ k → (∀ d ∈ out, d.ok) → ∃ out', bK (bw 0) fcE feE (b9 (k : Int) m) [x0, .sh (.lst (dsD es))] (dsD out) = some (dsD out') ∧ (∀ d ∈ out', d.ok) ∧ out'.length ≤ es.length
  | 0, k, out, x0, h, ho, hd => ⟨out, rfl, hd, by omega⟩
  | m + 1, k, out, x0, h, ho, hd => by
    have hk : k < es.length := by omega
    have a1 : es[k]? = some es[k] := List.getElem?_eq_getElem hk
    have hok := hes _ (List.getElem_mem hk)
    generalize es[k] = d at a1 hok
    have i1 : gIx (.lst (dsD es)) (.int (k : Int)) = some (.val d.D) := xu (by omega) (by rw [show ((k : Int)).toNat = k by omega]; exact a1)
    have t1 : fcE [.sh (.int (k : Int)), .sh (.lst (dsD es))] = .ok (decide ((k : Int) % 2 = 1)) [.sh (.int (k : Int)), .sh (.lst (dsD es))] := aK (ak (ak (ai rfl) aj rfl rfl (gu rfl)) aj rfl rfl (cg rfl)) rfl
    have t2 : feE [.sh (.int (k : Int)), .sh (.lst (dsD es))] = .ok (.val d.D) [.sh (.int (k : Int)), .sh (.lst (dsD es))] := ak (ai rfl) (ai rfl) rfl rfl i1
    have t3 : fN feE [.sh (.int (k : Int)), .sh (.lst (dsD es))] = .ok (.val d.D) [.sh (.int (k : Int)), .sh (.lst (dsD es))] := by
      unfold fN DM.bd
      rw [t2]
      rfl
    rw [rdc]
    by_cases hz : (k : Int) % 2 = 1
    · rw [decide_eq_true hz] at t1
      obtain ⟨out', e, q1, q2⟩ := oO es hes he m (k + 1) (out ++ [d]) (.sh (.int (k : Int))) (by omega) (by rw [List.length_append]; change out.length + 1 ≤ _; omega) fun x hx => by
        rcases List.mem_append.mp hx with z | z
        · exact hd x z
        · rw [List.mem_singleton.mp z]; exact hok
      refine ⟨out', ?_, q1, q2⟩
      rw [uT (t := bw 0) rfl t1 t3 (by rw [kd]; unfold sizeLine; omega), ← e, nt]
      rfl
    · rw [decide_eq_false hz] at t1
      obtain ⟨out', e, q1, q2⟩ := oO es hes he m (k + 1) out (.sh (.int (k : Int))) (by omega) (by omega) hd
      refine ⟨out', ?_, q1, q2⟩
      rw [yz (t := bw 0) rfl t1, ← e]
      rfl
noncomputable def bDr : DM Fl := (ax (aL 5 (af (af (aR 2 (ae (aa 0) (ae (af (fC (.int 2)) (aa 4) bj) ah)) dC) (fC (.int 1000003)) bD) (af (fC (.int 5003)) (aa 4) eM) bj))
    (dU 3 (aR 2 (ae (af (af (aa 5) (af (aa 5) (fC (.int 16)) bD) cV) (aa 2) bj) (ae (aa 1) ah)) ik)))
noncomputable abbrev S0 (ns : List Int) (sp near : Int) (es : List Dd) (s4 s5 : Sl) : DSt := [.sh (.scr ns), .sh (.int sp), .sh (.int near), .ow (dsD es), s4, s5, .no, .no, .no, .no, .no, .no]
theorem Bh (ns : List Int) (sp near : Int) (hsp : 0 < sp) (s5 : Sl) (es : List Dd) (k : Nat) (hk : k < 100) (hl : es.length < 200) : ∃ (d : Dd) (x5 : Sl), d.ok ∧ bDr (S0 ns sp near es (.sh (.int (k : Int))) s5) = .ok .nx (S0 ns sp near (es ++ [d]) (.sh (.int (k : Int))) x5) := by
  have c1 := oB ns (2 + (k : Int)) (by omega)
  have gm : eM (.int 5003) (.int (k : Int)) = some (.val (.int (5003 * (k : Int)))) := qB (qo (by omega) (by omega))
  generalize hc : eQ ns (2 + (k : Int)) % 1000003 + 5003 * (k : Int) = cell
  have ga : bj (.int (eQ ns (2 + (k : Int)) % 1000003)) (.int (5003 * (k : Int))) = some (.val (.int cell)) := by rw [← hc]; rfl
  obtain ⟨d, hd, gd⟩ := ve (cell - cell % 16 + near) sp hsp
  have e4 : (aL 5 (af (af (aR 2 (ae (aa 0) (ae (af (fC (.int 2)) (aa 4) bj) ah)) dC) (fC (.int 1000003)) bD) (af (fC (.int 5003)) (aa 4) eM) bj)) (S0 ns sp near es (.sh (.int (k : Int))) s5) = .ok .nx (S0 ns sp near es (.sh (.int (k : Int))) (.sh (.int cell))) :=
    aS (ak (ak (eG (aq (ai rfl) (aq (ak aj (ai rfl) rfl rfl iK) aB)) rfl rfl c1) aj rfl rfl (gu rfl)) (ak aj (ai rfl) rfl rfl gm) rfl rfl ga) rfl
  unfold bDr
  refine ⟨d, .sh (.int cell), hd, av e4 (az ?_)⟩
  unfold S0
  rw [nt es [d]]
  exact lq (i := 3) (es := dsD es) (ds := dsD es) rfl (eG (aq (ak (ak (ai rfl) (ak (ai rfl) aj rfl rfl (gu rfl)) rfl rfl rfl) (ai rfl) rfl rfl iK) (aq (ai rfl) aB)) rfl rfl gd) rfl rfl (by rw [kd]; unfold sizeLine; omega)
theorem tT (ns : List Int) (sp near : Int) (hsp : 0 < sp) : ∀ (m k : Nat) (es : List Dd) (s4 s5 : Sl), k + m ≤ 100 → es.length = k → (∀ d ∈ es, d.ok) → ∃ (es' : List Dd) (x4 x5 : Sl), es'.length = k + m ∧ (∀ d ∈ es', d.ok) ∧
    cX (bw 4) bDr (b9 (k : Int) m) (S0 ns sp near es s4 s5) = .ok .nx (S0 ns sp near es' x4 x5)
  | 0, k, es, s4, s5, _, hl, hd => ⟨es, s4, s5, hl, hd, rfl⟩
  | m + 1, k, es, s4, s5, h, hl, hd => by
    obtain ⟨d, x5, hd', e1⟩ := Bh ns sp near hsp s5 es k (by omega) (by omega)
    obtain ⟨es', y4, y5, l', q', e2⟩ := tT ns sp near hsp m (k + 1) (es ++ [d]) (.sh (.int (k : Int))) x5 (by omega) (by rw [List.length_append, hl]; rfl) fun x hx => by
      rcases List.mem_append.mp hx with z | z
      · exact hd x z
      · rw [List.mem_singleton.mp z]; exact hd'
    refine ⟨es', y4, y5, by omega, q', ?_⟩
    rw [rdc]
    exact kB rfl e1 e2
section
variable {hs hs2 : List (List Int)} {cl cl2 : List Lp} {ds ds2 : List Dd} {b b2 : Bd} {n n2 : Nat}
noncomputable abbrev S1 (ns : List Int) (sp near : Int) (es : List Dd) (s4 s5 : Sl) (s6 s7 s8 s9 s10 s11 : Sl) : DSt := [.sh (.scr ns), .sh (.int sp), .sh (.int near), .sh (.lst (dsD es)), s4, s5, s6, s7, s8, s9, s10, s11]
noncomputable def mw : DM Fl := (ax (fIf (bA (aA (af (aa 8) (fC .non) ft)) (aA (af (aa 9) (fC .non) ft))) (aF (fC (.bl false))) aM)
    (ax (ic 10 (dm (aX 6 1 ah dG) (dm (aX 6 1 ah dO) (dm (aX 6 3 (ae (fC (.str "f")) (ae (aa 2) ah)) b7) (dm (aX 6 3 (ae (fC (.str "b")) (ae (aa 2) ah)) b7) kC)))))
    (ax (iL 10 11 (.str "x"))
    (ax (fIf (bO (aA (aX 7 4 (ae (af (aa 9) (fC (.int 0)) gIx) (ae (af (aa 9) (fC (.int 1)) gIx) (ae (af (aa 9) (fC (.int 2)) gIx) ah))) eY))) (aF (fC (.bl false))) aM)
    (aF (aX 6 4 (ae (af (aa 8) (fC (.int 0)) gIx) (ae (af (aa 8) (fC (.int 1)) gIx) (ae (af (aa 8) (fC (.int 2)) gIx) ah))) eY))))))
theorem wW (ns : List Int) (sp near : Int) (es : List Dd) (s4 s5 : Sl) (h0 : 0 ≤ near) (h1 : near ≤ 15) (hB : Bed hs cl n) (B : BS hs cl ds b) (hn : n ≤ 100) (hl : ds.length ≤ 100) (hB2 : Bed hs2 cl2 n2) (B2 : BS hs2 cl2 ds2 b2) (hn2 : n2 ≤ 100) (hl2 : ds2.length ≤ 100) :
    ∃ δ, mw (S1 ns sp near es s4 s5 b.sl b2.sl (.sh (tri hs cl ds)) (.sh (tri hs2 cl2 ds2)) .no .no) = .ok (.rt (.bl true)) δ := by
  obtain ⟨g32, g4, gcl⟩ := hB.size
  obtain ⟨k32, k4, kcl⟩ := hB2.size
  have st := B.stands g32 g4 (by omega) hB.held (by omega)
  have st2 := B2.stands k32 k4 (by omega) hB2.held (by omega)
  have e1 := B.cloth
  have e2 := B.done (by omega)
  have e3 := B.hook (r := Str.ofString "f") (a := near) (.inl rfl) h0 h1
  have e4 := B.hook (r := Str.ofString "b") (a := near) (.inr rfl) h0 h1
  have hbf := cH (r := Str.ofString "f") h0 h1
  have hbb := cH (r := Str.ofString "b") h0 h1
  have l3 := g4 _ (fZ (hs := hs) (i := hk (Str.ofString "f") near) (by omega))
  have l4 := g4 _ (fZ (hs := hs) (i := hk (Str.ofString "b") near) (by omega))
  have t0 : ∀ (hs : List (List Int)) (cl : List Lp) (ds : List Dd), gIx (tri hs cl ds) (.int 0) = some (.val (.lst (lvD hs))) := fun _ _ _ => rfl
  have t1 : ∀ (hs : List (List Int)) (cl : List Lp) (ds : List Dd), gIx (tri hs cl ds) (.int 1) = some (.val (.lst (clD cl))) := fun _ _ _ => rfl
  have t2 : ∀ (hs : List (List Int)) (cl : List Lp) (ds : List Dd), gIx (tri hs cl ds) (.int 2) = some (.val (.lst (dsD ds))) := fun _ _ _ => rfl
  have A1 : (fIf (bA (aA (af (aa 8) (fC .non) ft)) (aA (af (aa 9) (fC .non) ft))) (aF (fC (.bl false))) aM) (S1 ns sp near es s4 s5 b.sl b2.sl (.sh (tri hs cl ds)) (.sh (tri hs2 cl2 ds2)) .no .no) = .ok .nx (S1 ns sp near es s4 s5 b.sl b2.sl (.sh (tri hs cl ds)) (.sh (tri hs2 cl2 ds2)) .no .no) :=
    aJ (lN (aK (ak (ai rfl) aj rfl rfl rfl) rfl) rfl (aK (ak (ai rfl) aj rfl rfl rfl) rfl)) (aW rfl bh)
  have r1 : (aX 6 1 ah dG) (S1 ns sp near es s4 s5 b.sl b2.sl (.sh (tri hs cl ds)) (.sh (tri hs2 cl2 ds2)) .no .no) = .ok (.own (clD cl)) (S1 ns sp near es s4 s5 b.sl b2.sl (.sh (tri hs cl ds)) (.sh (tri hs2 cl2 ds2)) .no .no) :=
    eD (b := b) (own := true) aB rfl rfl rfl (by
      change roR true (dG [b.d]) _ = _
      rw [e1]; exact lA (tY cl))
  have r2 : (aX 6 1 ah dO) (S1 ns sp near es s4 s5 b.sl b2.sl (.sh (tri hs cl ds)) (.sh (tri hs2 cl2 ds2)) .no .no) = .ok (.own (dsD ds)) (S1 ns sp near es s4 s5 b.sl b2.sl (.sh (tri hs cl ds)) (.sh (tri hs2 cl2 ds2)) .no .no) :=
    eD (b := b) (own := true) aB rfl rfl rfl (by
      change roR true (dO [b.d]) _ = _
      rw [e2]; exact lA (nP ds))
  have r3 : (aX 6 3 (ae (fC (.str "f")) (ae (aa 2) ah)) b7) (S1 ns sp near es s4 s5 b.sl b2.sl (.sh (tri hs cl ds)) (.sh (tri hs2 cl2 ds2)) .no .no) = .ok (.own (iD (hAt hs (hk (Str.ofString "f") near)))) (S1 ns sp near es s4 s5 b.sl b2.sl (.sh (tri hs cl ds)) (.sh (tri hs2 cl2 ds2)) .no .no) :=
    eD (b := b) (own := true) (aq aj (aq (ai rfl) aB)) rfl rfl rfl (by
      change roR true (b7 [b.d, .str (Str.ofString "f"), .int near]) _ = _
      rw [e3]; exact lA (kJ _))
  have r4 : (aX 6 3 (ae (fC (.str "b")) (ae (aa 2) ah)) b7) (S1 ns sp near es s4 s5 b.sl b2.sl (.sh (tri hs cl ds)) (.sh (tri hs2 cl2 ds2)) .no .no) = .ok (.own (iD (hAt hs (hk (Str.ofString "b") near)))) (S1 ns sp near es s4 s5 b.sl b2.sl (.sh (tri hs cl ds)) (.sh (tri hs2 cl2 ds2)) .no .no) :=
    eD (b := b) (own := true) (aq aj (aq (ai rfl) aB)) rfl rfl rfl (by
      change roR true (b7 [b.d, .str (Str.ofString "b"), .int near]) _ = _
      rw [e4]; exact lA (kJ _))
  have A2 : (ic 10 (dm (aX 6 1 ah dG) (dm (aX 6 1 ah dO) (dm (aX 6 3 (ae (fC (.str "f")) (ae (aa 2) ah)) b7) (dm (aX 6 3 (ae (fC (.str "b")) (ae (aa 2) ah)) b7) kC))))) (S1 ns sp near es s4 s5 b.sl b2.sl (.sh (tri hs cl ds)) (.sh (tri hs2 cl2 ds2)) .no .no) = .ok .nx (S1 ns sp near es s4 s5 b.sl b2.sl (.sh (tri hs cl ds)) (.sh (tri hs2 cl2 ds2)) (.nw [clD cl, dsD ds, iD (hAt hs (hk (Str.ofString "f") near)), iD (hAt hs (hk (Str.ofString "b") near))]) .no) :=
    zP (i := 10) (nh r1 (nh r2 (nh r3 (nh r4 rfl)))) (by change 4 ≤ sizeLine; unfold sizeLine; omega)
  have hz : ∀ xs ∈ [clD cl, dsD ds, iD (hAt hs (hk (Str.ofString "f") near)), iD (hAt hs (hk (Str.ofString "b") near))], xs.length < sizeLine := fun xs hx => by
    unfold sizeLine
    rcases List.mem_cons.mp hx with rfl | hx
    · rw [iB]; omega
    rcases List.mem_cons.mp hx with rfl | hx
    · rw [kd]; omega
    rcases List.mem_cons.mp hx with rfl | hx
    · rw [eK]; omega
    rw [List.mem_singleton.mp hx, eK]; omega
  obtain ⟨yss, A3⟩ : ∃ yss, (iL 10 11 (.str "x")) (S1 ns sp near es s4 s5 b.sl b2.sl (.sh (tri hs cl ds)) (.sh (tri hs2 cl2 ds2)) (.nw [clD cl, dsD ds, iD (hAt hs (hk (Str.ofString "f") near)), iD (hAt hs (hk (Str.ofString "b") near))]) .no) = .ok .nx (S1 ns sp near es s4 s5 b.sl b2.sl (.sh (tri hs cl ds)) (.sh (tri hs2 cl2 ds2)) (.nw yss) .no) :=
    ⟨_, xQ (i := 10) (j := 11) rfl (by decide) (by change 11 < 12; decide) hz⟩
  refine ⟨S1 ns sp near es s4 s5 b.sl b2.sl (.sh (tri hs cl ds)) (.sh (tri hs2 cl2 ds2)) (.nw yss) .no, ?_⟩
  unfold mw
  refine av A1 (az (av A2 (az (av A3 (az (av (R1 := .ok .nx (S1 ns sp near es s4 s5 b.sl b2.sl (.sh (tri hs cl ds)) (.sh (tri hs2 cl2 ds2)) (.nw yss) .no)) ?_ (az ?_)))))))
  · exact aJ (eX (b := true) (aK (eD (Z := .ok (.val (.bl true)) (S1 ns sp near es s4 s5 b.sl b2.sl (.sh (tri hs cl ds)) (.sh (tri hs2 cl2 ds2)) (.nw yss) .no)) (b := b2) (own := true) (aq (ak (ai rfl) aj rfl rfl (t0 hs2 cl2 ds2)) (aq (ak (ai rfl) aj rfl rfl (t1 hs2 cl2 ds2)) (aq (ak (ai rfl) aj rfl rfl (t2 hs2 cl2 ds2)) aB))) rfl rfl rfl (by
      change roR true (eY [b2.d, .lst (lvD hs2), .lst (clD cl2), .lst (dsD ds2)]) _ = _
      rw [st2]; rfl)) rfl)) (aW rfl bh)
  · exact bQ (eD (Z := .ok (.val (.bl true)) (S1 ns sp near es s4 s5 b.sl b2.sl (.sh (tri hs cl ds)) (.sh (tri hs2 cl2 ds2)) (.nw yss) .no)) (b := b) (own := true) (aq (ak (ai rfl) aj rfl rfl (t0 hs cl ds)) (aq (ak (ai rfl) aj rfl rfl (t1 hs cl ds)) (aq (ak (ai rfl) aj rfl rfl (t2 hs cl ds)) aB))) rfl rfl rfl (by
      change roR true (eY [b.d, .lst (lvD hs), .lst (clD cl), .lst (dsD ds)]) _ = _
      rw [st]; rfl)) cN
end
theorem uv (ns : List Int) (_ : ns.length ≤ 63) : jz [.scr ns] = .ok (.bl true) := by
  have c0 := oB ns 0 (by omega)
  have c1 := oB ns 1 (by omega)
  have n0 : 0 ≤ eQ ns 1 % 16 := by omega
  have n1 : eQ ns 1 % 16 ≤ 15 := by omega
  have z0 : ([] : List D).length ≤ sizeLine := by change 0 ≤ sizeLine; unfold sizeLine; omega
  have main : ∀ sp : Int, 0 < sp → ∀ R, (ax (aL 2 (af (aR 2 (ae (aa 0) (ae (fC (.int 1)) ah)) dC) (fC (.int 16)) bD))
    (ax (fz 3 (bF ah))
    (ax (fE (dQ (ae (af (aR 2 (ae (aa 0) (ae (fC (.int 0)) ah)) dC) (fC (.int 41)) bD) ah)) (bw 4) bDr)
    (ax (kI 6)
    (ax (kI 7)
    (ax (fun δ => (aL 8 (bz 6 2 (ae (aa 3) ah) fj)) (frz 3 δ))
    (ax (fun δ => (aL 9 (bz 7 2 (ae (fLC (dQ (ae (fCB (ae (aa 3) ah) aZ) ah)) (bw 0) fcE feE [none, some 3]) ah) fj)) (frz 3 δ))
    mw))))))) [.sh (.scr ns), .sh (.int sp), .no, .no, .no, .no, .no, .no, .no, .no, .no, .no] = R → ∃ δ, R = .ok (.rt (.bl true)) δ := by
    intro sp hsp R hR
    generalize hnear : eQ ns 1 % 16 = near at *
    obtain ⟨es, x4, x5, le, hes, eL⟩ := tT ns sp near hsp (eQ ns 0 % 41).toNat 0 [] .no .no (by omega) rfl fun d hd => by cases hd
    have eL : cX (bw 4) bDr (b9 0 (eQ ns 0 % 41).toNat) (S0 ns sp near [] .no .no) = .ok .nx (S0 ns sp near es x4 x5) := eL
    have hle : es.length ≤ 100 := by omega
    obtain ⟨es2, eC, hes2, le2⟩ := oO es hes hle es.length 0 [] .no (by omega) (Nat.le_refl _) fun d hd => by cases hd
    have eC : bK (bw 0) fcE feE (b9 0 (es.length : Int).toNat) [.no, .sh (.lst (dsD es))] [] = some (dsD es2) := eC
    obtain ⟨hs, cl, ds, b, n, hB, B, q1, q2, eT⟩ := pI es hes hle
    obtain ⟨hs2, cl2, ds2, b2, n2, hB2, B2, q3, q4, eT2⟩ := pI es2 hes2 (by omega)
    obtain ⟨δ, eE⟩ := wW ns sp near es x4 x5 n0 n1 hB B q1 q2 hB2 B2 q3 q4
    refine ⟨δ, ?_⟩
    rw [← hR]
    have gl : aZ [.lst (dsD es)] = some (.val (.int (es.length : Int))) := by
      change some (DV.val (.int ((dsD es).length : Int))) = _
      rw [kd]
    refine av (R1 := .ok .nx [.sh (.scr ns), .sh (.int sp), .sh (.int near), .no, .no, .no, .no, .no, .no, .no, .no, .no]) (by rw [← hnear]; exact aS (ak (eG (aq (ai rfl) (aq aj aB)) rfl rfl c1) aj rfl rfl (gu rfl)) rfl) (az ?_)
    refine av (R1 := .ok .nx (S0 ns sp near [] .no .no)) (ko (eu aB rfl z0)) (az ?_)
    refine av (mf (kM (aq (ak (eG (aq (ai rfl) (aq aj aB)) rfl rfl c0) aj rfl rfl (gu rfl)) aB) rfl (jC (by omega) (by omega))) eL) (az ?_)
    refine av (R1 := .ok .nx [.sh (.scr ns), .sh (.int sp), .sh (.int near), .ow (dsD es), x4, x5, Bd.sl ⟨[], [], [], []⟩, .no, .no, .no, .no, .no]) rfl (az ?_)
    refine av (R1 := .ok .nx [.sh (.scr ns), .sh (.int sp), .sh (.int near), .ow (dsD es), x4, x5, Bd.sl ⟨[], [], [], []⟩, Bd.sl ⟨[], [], [], []⟩, .no, .no, .no, .no]) rfl (az ?_)
    refine av (R1 := .ok .nx (S1 ns sp near es x4 x5 b.sl (Bd.sl ⟨[], [], [], []⟩) (.sh (tri hs cl ds)) .no .no .no)) ?_ (az ?_)
    · change (aL 8 (bz 6 2 (ae (aa 3) ah) fj)) (S1 ns sp near es x4 x5 (Bd.sl ⟨[], [], [], []⟩) (Bd.sl ⟨[], [], [], []⟩) .no .no .no .no) = _
      exact aS (dt (Z := .ok (.val (tri hs cl ds)) (S1 ns sp near es x4 x5 b.sl (Bd.sl ⟨[], [], [], []⟩) .no .no .no .no)) (b := ⟨[], [], [], []⟩) (own := true) (aq (ai rfl) aB) rfl rfl rfl (by rw [eT]; rfl)) rfl
    refine av (R1 := .ok .nx (S1 ns sp near es x4 x5 b.sl b2.sl (.sh (tri hs cl ds)) (.sh (tri hs2 cl2 ds2)) .no .no)) ?_ (az eE)
    · change (aL 9 (bz 7 2 (ae (fLC (dQ (ae (fCB (ae (aa 3) ah) aZ) ah)) (bw 0) fcE feE [none, some 3]) ah) fj)) (S1 ns sp near es x4 x5 b.sl (Bd.sl ⟨[], [], [], []⟩) (.sh (tri hs cl ds)) .no .no .no) = _
      exact aS (dt (Z := .ok (.val (tri hs2 cl2 ds2)) (S1 ns sp near es x4 x5 b.sl b2.sl (.sh (tri hs cl ds)) .no .no .no)) (b := ⟨[], [], [], []⟩) (own := true) (aq (kh (kM (aq (cy (aq (ai rfl) aB) rfl gl) aB) rfl (jC (by omega) (by omega))) eC) aB) rfl rfl rfl (by rw [eT2]; rfl)) rfl
  unfold bDr fcE feE mw at main
  unfold jz sm
  have t1 : (aA (af (af (af (aR 2 (ae (aa 0) (ae (fC (.int 0)) ah)) dC) (fC (.int 41)) ej) (fC (.int 3)) bD) (fC (.int 1)) gEq)) [.sh (.scr ns), .sh (.int 3), .no, .no, .no, .no, .no, .no, .no, .no, .no, .no] = .ok (decide (eQ ns 0 / 41 % 3 = 1)) [.sh (.scr ns), .sh (.int 3), .no, .no, .no, .no, .no, .no, .no, .no, .no, .no] :=
    aK (ak (ak (ak (eG (aq (ai rfl) (aq aj aB)) rfl rfl c0) aj rfl rfl (qS rfl)) aj rfl rfl (gu rfl)) aj rfl rfl (cg rfl)) rfl
  by_cases hz : eQ ns 0 / 41 % 3 = 1
  · rw [decide_eq_true hz] at t1
    obtain ⟨δ, e⟩ := main 16 (by omega) _ rfl
    exact kT (av (aS aj rfl) (az (av (aJ t1 (bS rfl (aS aj rfl))) (az e))))
  · rw [decide_eq_false hz] at t1
    obtain ⟨δ, e⟩ := main 3 (by omega) _ rfl
    exact kT (av (aS aj rfl) (az (av (aJ t1 (aW rfl bh)) (az e))))
end Lw
namespace Lw
open PySem L2 DL PyProof.Rows
theorem jU : ∀ (us : List Value), us.length = 1 → ∃ x0, us = [x0]
  | [x0], _ => ⟨x0, rfl⟩
theorem dB : ∀ (us : List Value), us.length = 2 → ∃ x0 x1, us = [x0, x1]
  | [x0, x1], _ => ⟨x0, x1, rfl⟩
theorem mQ : ∀ (us : List Value), us.length = 3 → ∃ x0 x1 x2, us = [x0, x1, x2]
  | [x0, x1, x2], _ => ⟨x0, x1, x2, rfl⟩
theorem pS : ∀ (us : List Value), us.length = 4 → ∃ x0 x1 x2 x3, us = [x0, x1, x2, x3]
  | [x0, x1, x2, x3], _ => ⟨x0, x1, x2, x3, rfl⟩
theorem all_mk {l : PySem.W.OpenLaw} {w : World} {K : PySem.W.Frag} {h : Heap} {mg : Str → Option Value} {fa : Addr} (X : K.In h) (G : h.Ns mainGlobals mg) (hfa : mg "law" = some (.ref fa))
    {C : Addr}
    {f0 : Addr} {od0 an0 : Option Addr} {sl0 : Array (Option Value)} {oc0 kV0 dc0 pm0 cd0 ct0 : Value}
    {f1 : Addr} {od1 an1 : Option Addr} {sl1 : Array (Option Value)} {oc1 kV1 dc1 pm1 cd1 ct1 : Value}
    {f2 : Addr} {od2 an2 : Option Addr} {sl2 : Array (Option Value)} {oc2 kV2 dc2 pm2 cd2 ct2 : Value}
    {f3 : Addr} {od3 an3 : Option Addr} {sl3 : Array (Option Value)} {oc3 kV3 dc3 pm3 cd3 ct3 : Value}
    {f4 : Addr} {od4 an4 : Option Addr} {sl4 : Array (Option Value)} {oc4 kV4 dc4 pm4 cd4 ct4 : Value}
    {f5 : Addr} {od5 an5 : Option Addr} {sl5 : Array (Option Value)} {oc5 kV5 dc5 pm5 cd5 ct5 : Value}
    {f6 : Addr} {od6 an6 : Option Addr} {sl6 : Array (Option Value)} {oc6 kV6 dc6 pm6 cd6 ct6 : Value}
    {f7 : Addr} {od7 an7 : Option Addr} {sl7 : Array (Option Value)} {oc7 kV7 dc7 pm7 cd7 ct7 : Value}
    {f8 : Addr} {od8 an8 : Option Addr} {sl8 : Array (Option Value)} {oc8 kV8 dc8 pm8 cd8 ct8 : Value}
    {f9 : Addr} {od9 an9 : Option Addr} {sl9 : Array (Option Value)} {oc9 kV9 dc9 pm9 cd9 ct9 : Value}
    {f10 : Addr} {od10 an10 : Option Addr} {sl10 : Array (Option Value)} {oc10 kV10 dc10 pm10 cd10 ct10 : Value}
    {f11 : Addr} {od11 an11 : Option Addr} {sl11 : Array (Option Value)} {oc11 kV11 dc11 pm11 cd11 ct11 : Value}
    {f12 : Addr} {od12 an12 : Option Addr} {sl12 : Array (Option Value)} {oc12 kV12 dc12 pm12 cd12 ct12 : Value}
    {f13 : Addr} {od13 an13 : Option Addr} {sl13 : Array (Option Value)} {oc13 kV13 dc13 pm13 cd13 ct13 : Value}
    {f14 : Addr} {od14 an14 : Option Addr} {sl14 : Array (Option Value)} {oc14 kV14 dc14 pm14 cd14 ct14 : Value}
    {f15 : Addr} {od15 an15 : Option Addr} {sl15 : Array (Option Value)} {oc15 kV15 dc15 pm15 cd15 ct15 : Value}
    {f16 : Addr} {od16 an16 : Option Addr} {sl16 : Array (Option Value)} {oc16 kV16 dc16 pm16 cd16 ct16 : Value}
    {f17 : Addr} {od17 an17 : Option Addr} {sl17 : Array (Option Value)} {oc17 kV17 dc17 pm17 cd17 ct17 : Value}
    {f18 : Addr} {od18 an18 : Option Addr} {sl18 : Array (Option Value)} {oc18 kV18 dc18 pm18 cd18 ct18 : Value}
    {f19 : Addr} {od19 an19 : Option Addr} {sl19 : Array (Option Value)} {oc19 kV19 dc19 pm19 cd19 ct19 : Value}
    {f20 : Addr} {od20 an20 : Option Addr} {sl20 : Array (Option Value)} {oc20 kV20 dc20 pm20 cd20 ct20 : Value}
    {f21 : Addr} {od21 an21 : Option Addr} {sl21 : Array (Option Value)} {oc21 kV21 dc21 pm21 cd21 ct21 : Value}
    {f22 : Addr} {od22 an22 : Option Addr} {sl22 : Array (Option Value)} {oc22 kV22 dc22 pm22 cd22 ct22 : Value}
    {f23 : Addr} {od23 an23 : Option Addr} {sl23 : Array (Option Value)} {oc23 kV23 dc23 pm23 cd23 ct23 : Value}
    {f24 : Addr} {od24 an24 : Option Addr} {sl24 : Array (Option Value)} {oc24 kV24 dc24 pm24 cd24 ct24 : Value}
    {f25 : Addr} {od25 an25 : Option Addr} {sl25 : Array (Option Value)} {oc25 kV25 dc25 pm25 cd25 ct25 : Value}
    {f26 : Addr} {od26 an26 : Option Addr} {sl26 : Array (Option Value)} {oc26 kV26 dc26 pm26 cd26 ct26 : Value}
    {a_ACROSS : Addr}
    {t_FARTHEST : Tok}
    {t_MOST_BORNE : Tok}
    {a_WAYS : Addr}
    {C_BedFault : Addr}
    {C_Empty : Addr}
    {C_LoopError : Addr}
    {C_NothingDone : Addr}
    {C_Overfull : Addr}
    {C_TooFar : Addr}
    (aC : PySem.W.nsIn K mainGlobals "Bed" = some (some (.ref C)))
    (a0 : PySem.W.findIn K (.ref C) "__init__" = some (some (.ref f0))) (i0 : PySem.W.isFn K (.ref f0) = true) (l0 : K.lookup f0 = some ⟨oc0, od0, .func (PySem.W.fnOf "__init__" "Bed.__init__" (bx iX) (bo iX) (aH iX) .none kV0 dc0 pm0 an0 cd0 ct0), sl0⟩) (c0 : PySem.W.codeIn K cd0 "Bed.__init__" = true) (k0 : PySem.W.keepIn K (.ref f0) = true)
    (a1 : PySem.W.nsIn K mainGlobals "_law_hook" = some (some (.ref f1))) (l1 : K.lookup f1 = some ⟨oc1, od1, .func (PySem.W.fnOf "_law_hook" "_law_hook" (bx jy) (bo jy) (aH jy) .none kV1 dc1 pm1 an1 cd1 ct1), sl1⟩) (c1 : PySem.W.codeIn K cd1 "_law_hook" = true) (k1 : PySem.W.keepIn K (.ref f1) = true)
    (a2 : PySem.W.nsIn K mainGlobals "_law_word" = some (some (.ref f2))) (l2 : K.lookup f2 = some ⟨oc2, od2, .func (PySem.W.fnOf "_law_word" "_law_word" (bx jl) (bo jl) (aH jl) .none kV2 dc2 pm2 an2 cd2 ct2), sl2⟩) (c2 : PySem.W.codeIn K cd2 "_law_word" = true) (k2 : PySem.W.keepIn K (.ref f2) = true)
    (a3 : PySem.W.findIn K (.ref C) "loops_at" = some (some (.ref f3))) (i3 : PySem.W.isFn K (.ref f3) = true) (l3 : K.lookup f3 = some ⟨oc3, od3, .func (PySem.W.fnOf "loops_at" "Bed.loops_at" (bx ju) (bo ju) (aH ju) .none kV3 dc3 pm3 an3 cd3 ct3), sl3⟩) (c3 : PySem.W.codeIn K cd3 "Bed.loops_at" = true) (k3 : PySem.W.keepIn K (.ref f3) = true)
    (a4 : PySem.W.findIn K (.ref C) "keep" = some (some (.ref f4))) (i4 : PySem.W.isFn K (.ref f4) = true) (l4 : K.lookup f4 = some ⟨oc4, od4, .func (PySem.W.fnOf "keep" "Bed.keep" (bx jc) (bo jc) (aH jc) .none kV4 dc4 pm4 an4 cd4 ct4), sl4⟩) (c4 : PySem.W.codeIn K cd4 "Bed.keep" = true) (k4 : PySem.W.keepIn K (.ref f4) = true)
    (a5 : PySem.W.findIn K (.ref C) "move" = some (some (.ref f5))) (i5 : PySem.W.isFn K (.ref f5) = true) (l5 : K.lookup f5 = some ⟨oc5, od5, .func (PySem.W.fnOf "move" "Bed.move" (bx jv) (bo jv) (aH jv) .none kV5 dc5 pm5 an5 cd5 ct5), sl5⟩) (c5 : PySem.W.codeIn K cd5 "Bed.move" = true) (k5 : PySem.W.keepIn K (.ref f5) = true)
    (a6 : PySem.W.findIn K (.ref C) "new_loop" = some (some (.ref f6))) (i6 : PySem.W.isFn K (.ref f6) = true) (l6 : K.lookup f6 = some ⟨oc6, od6, .func (PySem.W.fnOf "new_loop" "Bed.new_loop" (bx iT) (bo iT) (aH iT) .none kV6 dc6 pm6 an6 cd6 ct6), sl6⟩) (c6 : PySem.W.codeIn K cd6 "Bed.new_loop" = true) (k6 : PySem.W.keepIn K (.ref f6) = true)
    (a7 : PySem.W.findIn K (.ref C) "knit" = some (some (.ref f7))) (i7 : PySem.W.isFn K (.ref f7) = true) (l7 : K.lookup f7 = some ⟨oc7, od7, .func (PySem.W.fnOf "knit" "Bed.knit" (bx iP) (bo iP) (aH iP) .none kV7 dc7 pm7 an7 cd7 ct7), sl7⟩) (c7 : PySem.W.codeIn K cd7 "Bed.knit" = true) (k7 : PySem.W.keepIn K (.ref f7) = true)
    (a8 : PySem.W.findIn K (.ref C) "tuck" = some (some (.ref f8))) (i8 : PySem.W.isFn K (.ref f8) = true) (l8 : K.lookup f8 = some ⟨oc8, od8, .func (PySem.W.fnOf "tuck" "Bed.tuck" (bx jb) (bo jb) (aH jb) .none kV8 dc8 pm8 an8 cd8 ct8), sl8⟩) (c8 : PySem.W.codeIn K cd8 "Bed.tuck" = true) (k8 : PySem.W.keepIn K (.ref f8) = true)
    (a9 : PySem.W.findIn K (.ref C) "act" = some (some (.ref f9))) (i9 : PySem.W.isFn K (.ref f9) = true) (l9 : K.lookup f9 = some ⟨oc9, od9, .func (PySem.W.fnOf "act" "Bed.act" (bx jW) (bo jW) (aH jW) .none kV9 dc9 pm9 an9 cd9 ct9), sl9⟩) (c9 : PySem.W.codeIn K cd9 "Bed.act" = true) (k9 : PySem.W.keepIn K (.ref f9) = true)
    (a10 : PySem.W.nsIn K mainGlobals "_law_own" = some (some (.ref f10))) (l10 : K.lookup f10 = some ⟨oc10, od10, .func (PySem.W.fnOf "_law_own" "_law_own" (bx jI) (bo jI) (aH jI) .none kV10 dc10 pm10 an10 cd10 ct10), sl10⟩) (c10 : PySem.W.codeIn K cd10 "_law_own" = true) (k10 : PySem.W.keepIn K (.ref f10) = true)
    (a11 : PySem.W.nsIn K mainGlobals "_law_act" = some (some (.ref f11))) (l11 : K.lookup f11 = some ⟨oc11, od11, .func (PySem.W.fnOf "_law_act" "_law_act" (bx jH) (bo jH) (aH jH) .none kV11 dc11 pm11 an11 cd11 ct11), sl11⟩) (c11 : PySem.W.codeIn K cd11 "_law_act" = true) (k11 : PySem.W.keepIn K (.ref f11) = true)
    (a12 : PySem.W.nsIn K mainGlobals "_law_at" = some (some (.ref f12))) (l12 : K.lookup f12 = some ⟨oc12, od12, .func (PySem.W.fnOf "_law_at" "_law_at" (bx iZ) (bo iZ) (aH iZ) .none kV12 dc12 pm12 an12 cd12 ct12), sl12⟩) (c12 : PySem.W.codeIn K cd12 "_law_at" = true) (k12 : PySem.W.keepIn K (.ref f12) = true)
    (a13 : PySem.W.nsIn K mainGlobals "_law_do" = some (some (.ref f13))) (l13 : K.lookup f13 = some ⟨oc13, od13, .func (PySem.W.fnOf "_law_do" "_law_do" (bx jh) (bo jh) (aH jh) .none kV13 dc13 pm13 an13 cd13 ct13), sl13⟩) (c13 : PySem.W.codeIn K cd13 "_law_do" = true) (k13 : PySem.W.keepIn K (.ref f13) = true)
    (a14 : PySem.W.nsIn K mainGlobals "_law_whole" = some (some (.ref f14))) (l14 : K.lookup f14 = some ⟨oc14, od14, .func (PySem.W.fnOf "_law_whole" "_law_whole" (bx jg) (bo jg) (aH jg) .none kV14 dc14 pm14 an14 cd14 ct14), sl14⟩) (c14 : PySem.W.codeIn K cd14 "_law_whole" = true) (k14 : PySem.W.keepIn K (.ref f14) = true)
    (a15 : PySem.W.nsIn K mainGlobals "_law_played" = some (some (.ref f15))) (l15 : K.lookup f15 = some ⟨oc15, od15, .func (PySem.W.fnOf "_law_played" "_law_played" (bx jw) (bo jw) (aH jw) .none kV15 dc15 pm15 an15 cd15 ct15), sl15⟩) (c15 : PySem.W.codeIn K cd15 "_law_played" = true) (k15 : PySem.W.keepIn K (.ref f15) = true)
    (a16 : PySem.W.nsIn K mainGlobals "_law_loop" = some (some (.ref f16))) (l16 : K.lookup f16 = some ⟨oc16, od16, .func (PySem.W.fnOf "_law_loop" "_law_loop" (bx ja) (bo ja) (aH ja) .none kV16 dc16 pm16 an16 cd16 ct16), sl16⟩) (c16 : PySem.W.codeIn K cd16 "_law_loop" = true) (k16 : PySem.W.keepIn K (.ref f16) = true)
    (a17 : PySem.W.nsIn K mainGlobals "_law_alike_cloth" = some (some (.ref f17))) (l17 : K.lookup f17 = some ⟨oc17, od17, .func (PySem.W.fnOf "_law_alike_cloth" "_law_alike_cloth" (bx jK) (bo jK) (aH jK) .none kV17 dc17 pm17 an17 cd17 ct17), sl17⟩) (c17 : PySem.W.codeIn K cd17 "_law_alike_cloth" = true) (k17 : PySem.W.keepIn K (.ref f17) = true)
    (a18 : PySem.W.findIn K (.ref C) "done" = some (some (.ref f18))) (i18 : PySem.W.isFn K (.ref f18) = true) (l18 : K.lookup f18 = some ⟨oc18, od18, .func (PySem.W.fnOf "done" "Bed.done" (bx jP) (bo jP) (aH jP) .none kV18 dc18 pm18 an18 cd18 ct18), sl18⟩) (c18 : PySem.W.codeIn K cd18 "Bed.done" = true) (k18 : PySem.W.keepIn K (.ref f18) = true)
    (a19 : PySem.W.nsIn K mainGlobals "_law_alike_hook" = some (some (.ref f19))) (l19 : K.lookup f19 = some ⟨oc19, od19, .func (PySem.W.fnOf "_law_alike_hook" "_law_alike_hook" (bx jV) (bo jV) (aH jV) .none kV19 dc19 pm19 an19 cd19 ct19), sl19⟩) (c19 : PySem.W.codeIn K cd19 "_law_alike_hook" = true) (k19 : PySem.W.keepIn K (.ref f19) = true)
    (a20 : PySem.W.findIn K (.ref C) "cloth" = some (some (.ref f20))) (i20 : PySem.W.isFn K (.ref f20) = true) (l20 : K.lookup f20 = some ⟨oc20, od20, .func (PySem.W.fnOf "cloth" "Bed.cloth" (bx iU) (bo iU) (aH iU) .none kV20 dc20 pm20 an20 cd20 ct20), sl20⟩) (c20 : PySem.W.codeIn K cd20 "Bed.cloth" = true) (k20 : PySem.W.keepIn K (.ref f20) = true)
    (a21 : PySem.W.findIn K (.ref C) "hook" = some (some (.ref f21))) (i21 : PySem.W.isFn K (.ref f21) = true) (l21 : K.lookup f21 = some ⟨oc21, od21, .func (PySem.W.fnOf "hook" "Bed.hook" (bx jL) (bo jL) (aH jL) .none kV21 dc21 pm21 an21 cd21 ct21), sl21⟩) (c21 : PySem.W.codeIn K cd21 "Bed.hook" = true) (k21 : PySem.W.keepIn K (.ref f21) = true)
    (a22 : PySem.W.nsIn K mainGlobals "_law_stands" = some (some (.ref f22))) (l22 : K.lookup f22 = some ⟨oc22, od22, .func (PySem.W.fnOf "_law_stands" "_law_stands" (bx jD) (bo jD) (aH jD) .none kV22 dc22 pm22 an22 cd22 ct22), sl22⟩) (c22 : PySem.W.codeIn K cd22 "_law_stands" = true) (k22 : PySem.W.keepIn K (.ref f22) = true)
    (a23 : PySem.W.nsIn K mainGlobals "_law_cell_at" = some (some (.ref f23))) (l23 : K.lookup f23 = some ⟨oc23, od23, .func (PySem.W.fnOf "_law_cell_at" "_law_cell_at" (bx jB) (bo jB) (aH jB) .none kV23 dc23 pm23 an23 cd23 ct23), sl23⟩) (c23 : PySem.W.codeIn K cd23 "_law_cell_at" = true) (k23 : PySem.W.keepIn K (.ref f23) = true)
    (a24 : PySem.W.nsIn K mainGlobals "_law_mix" = some (some (.ref f24))) (l24 : K.lookup f24 = some ⟨oc24, od24, .func (PySem.W.fnOf "_law_mix" "_law_mix" (bx jO) (bo jO) (aH jO) .none kV24 dc24 pm24 an24 cd24 ct24), sl24⟩) (c24 : PySem.W.codeIn K cd24 "_law_mix" = true) (k24 : PySem.W.keepIn K (.ref f24) = true)
    (a25 : PySem.W.nsIn K mainGlobals "_law_deed" = some (some (.ref f25))) (l25 : K.lookup f25 = some ⟨oc25, od25, .func (PySem.W.fnOf "_law_deed" "_law_deed" (bx iR) (bo iR) (aH iR) .none kV25 dc25 pm25 an25 cd25 ct25), sl25⟩) (c25 : PySem.W.codeIn K cd25 "_law_deed" = true) (k25 : PySem.W.keepIn K (.ref f25) = true)
    (a26 : PySem.W.nsIn K mainGlobals "law" = some (some (.ref f26))) (l26 : K.lookup f26 = some ⟨oc26, od26, .func (PySem.W.fnOf "law" "law" (bx fU) (bo fU) (aH fU) .none kV26 dc26 pm26 an26 cd26 ct26), sl26⟩) (c26 : PySem.W.codeIn K cd26 "law" = true) (k26 : PySem.W.keepIn K (.ref f26) = true)
    (z_ValueError : PySem.W.nsIn K mainGlobals "ValueError" = some none)
    (z_abs : PySem.W.nsIn K mainGlobals "abs" = some none)
    (z_all : PySem.W.nsIn K mainGlobals "all" = some none)
    (z_bool : PySem.W.nsIn K mainGlobals "bool" = some none)
    (z_int : PySem.W.nsIn K mainGlobals "int" = some none)
    (z_isinstance : PySem.W.nsIn K mainGlobals "isinstance" = some none)
    (z_len : PySem.W.nsIn K mainGlobals "len" = some none)
    (z_list : PySem.W.nsIn K mainGlobals "list" = some none)
    (z_max : PySem.W.nsIn K mainGlobals "max" = some none)
    (z_min : PySem.W.nsIn K mainGlobals "min" = some none)
    (z_range : PySem.W.nsIn K mainGlobals "range" = some none)
    (z_str : PySem.W.nsIn K mainGlobals "str" = some none)
    (z_tuple : PySem.W.nsIn K mainGlobals "tuple" = some none)
    (pgB : PySem.W.plainGet K C Str.empty = true) (hdB : PySem.W.hasDictIn K C = true) (poB : PySem.W.plainOver K C = true) (saB : PySem.W.findIn K (.ref C) "__setattr__" = some (some (.builtin "object.__setattr__"))) (mkB : PySem.W.makesIn K C = true) (kcB : PySem.W.keepIn K (.ref C) = true) (nB1 : PySem.W.findIn K (.ref C) "borne" = some none) (nB2 : PySem.W.findIn K (.ref C) "knitted" = some none) (nB3 : PySem.W.findIn K (.ref C) "past" = some none)
    (g_ACROSS : PySem.W.nsIn K mainGlobals "ACROSS" = some (some (.ref a_ACROSS)))
    (h_ACROSS : PyProof.Rows.KTD.tabLook (PyProof.Rows.KTD.datLooks fun b => K.lookup b) (fun b => K.lookup b) a_ACROSS (gK lB) = true)
    (g_FARTHEST : PySem.W.nsIn K mainGlobals "FARTHEST" = some (some (.int 2 t_FARTHEST)))
    (g_MOST_BORNE : PySem.W.nsIn K mainGlobals "MOST_BORNE" = some (some (.int 4 t_MOST_BORNE)))
    (g_WAYS : PySem.W.nsIn K mainGlobals "WAYS" = some (some (.ref a_WAYS)))
    (h_WAYS : PyProof.Rows.KTD.tabLook (PyProof.Rows.KTD.datLooks fun b => K.lookup b) (fun b => K.lookup b) a_WAYS (gK j1) = true)
    (nc_BedFault : PySem.W.nsIn K mainGlobals "BedFault" = some (some (.ref C_BedFault)))
    (nc_Empty : PySem.W.nsIn K mainGlobals "Empty" = some (some (.ref C_Empty)))
    (nc_LoopError : PySem.W.nsIn K mainGlobals "LoopError" = some (some (.ref C_LoopError)))
    (nc_NothingDone : PySem.W.nsIn K mainGlobals "NothingDone" = some (some (.ref C_NothingDone)))
    (nc_Overfull : PySem.W.nsIn K mainGlobals "Overfull" = some (some (.ref C_Overfull)))
    (nc_TooFar : PySem.W.nsIn K mainGlobals "TooFar" = some (some (.ref C_TooFar)))
    (xq_Empty : PySem.W.excIn K C_Empty bmV "ValueError.__new__" = true)
    (xk_Empty : jM K C_Empty = true)
    (xm_Empty_BedFault : PySem.W.exmOne K (.ref C_Empty) (.ref C_BedFault) = some true)
    (xi_Empty_BedFault : PySem.W.kitOne K (.ref C_Empty) (.ref C_BedFault) = some true)
    (xm_Empty_Empty : PySem.W.exmOne K (.ref C_Empty) (.ref C_Empty) = some true)
    (xi_Empty_Empty : PySem.W.kitOne K (.ref C_Empty) (.ref C_Empty) = some true)
    (xm_Empty_LoopError : PySem.W.exmOne K (.ref C_Empty) (.ref C_LoopError) = some true)
    (xi_Empty_LoopError : PySem.W.kitOne K (.ref C_Empty) (.ref C_LoopError) = some true)
    (xm_Empty_NothingDone : PySem.W.exmOne K (.ref C_Empty) (.ref C_NothingDone) = some false)
    (xi_Empty_NothingDone : PySem.W.kitOne K (.ref C_Empty) (.ref C_NothingDone) = some false)
    (xm_Empty_Overfull : PySem.W.exmOne K (.ref C_Empty) (.ref C_Overfull) = some false)
    (xi_Empty_Overfull : PySem.W.kitOne K (.ref C_Empty) (.ref C_Overfull) = some false)
    (xm_Empty_TooFar : PySem.W.exmOne K (.ref C_Empty) (.ref C_TooFar) = some false)
    (xi_Empty_TooFar : PySem.W.kitOne K (.ref C_Empty) (.ref C_TooFar) = some false)
    (xv_Empty : PySem.W.kitOne K (.ref C_Empty) (.type "ValueError") = some true)
    (xq_Overfull : PySem.W.excIn K C_Overfull bmV "ValueError.__new__" = true)
    (xk_Overfull : jM K C_Overfull = true)
    (xm_Overfull_BedFault : PySem.W.exmOne K (.ref C_Overfull) (.ref C_BedFault) = some true)
    (xi_Overfull_BedFault : PySem.W.kitOne K (.ref C_Overfull) (.ref C_BedFault) = some true)
    (xm_Overfull_Empty : PySem.W.exmOne K (.ref C_Overfull) (.ref C_Empty) = some false)
    (xi_Overfull_Empty : PySem.W.kitOne K (.ref C_Overfull) (.ref C_Empty) = some false)
    (xm_Overfull_LoopError : PySem.W.exmOne K (.ref C_Overfull) (.ref C_LoopError) = some true)
    (xi_Overfull_LoopError : PySem.W.kitOne K (.ref C_Overfull) (.ref C_LoopError) = some true)
    (xm_Overfull_NothingDone : PySem.W.exmOne K (.ref C_Overfull) (.ref C_NothingDone) = some false)
    (xi_Overfull_NothingDone : PySem.W.kitOne K (.ref C_Overfull) (.ref C_NothingDone) = some false)
    (xm_Overfull_Overfull : PySem.W.exmOne K (.ref C_Overfull) (.ref C_Overfull) = some true)
    (xi_Overfull_Overfull : PySem.W.kitOne K (.ref C_Overfull) (.ref C_Overfull) = some true)
    (xm_Overfull_TooFar : PySem.W.exmOne K (.ref C_Overfull) (.ref C_TooFar) = some false)
    (xi_Overfull_TooFar : PySem.W.kitOne K (.ref C_Overfull) (.ref C_TooFar) = some false)
    (xv_Overfull : PySem.W.kitOne K (.ref C_Overfull) (.type "ValueError") = some true)
    (xq_TooFar : PySem.W.excIn K C_TooFar bmV "ValueError.__new__" = true)
    (xk_TooFar : jM K C_TooFar = true)
    (xm_TooFar_BedFault : PySem.W.exmOne K (.ref C_TooFar) (.ref C_BedFault) = some true)
    (xi_TooFar_BedFault : PySem.W.kitOne K (.ref C_TooFar) (.ref C_BedFault) = some true)
    (xm_TooFar_Empty : PySem.W.exmOne K (.ref C_TooFar) (.ref C_Empty) = some false)
    (xi_TooFar_Empty : PySem.W.kitOne K (.ref C_TooFar) (.ref C_Empty) = some false)
    (xm_TooFar_LoopError : PySem.W.exmOne K (.ref C_TooFar) (.ref C_LoopError) = some true)
    (xi_TooFar_LoopError : PySem.W.kitOne K (.ref C_TooFar) (.ref C_LoopError) = some true)
    (xm_TooFar_NothingDone : PySem.W.exmOne K (.ref C_TooFar) (.ref C_NothingDone) = some false)
    (xi_TooFar_NothingDone : PySem.W.kitOne K (.ref C_TooFar) (.ref C_NothingDone) = some false)
    (xm_TooFar_Overfull : PySem.W.exmOne K (.ref C_TooFar) (.ref C_Overfull) = some false)
    (xi_TooFar_Overfull : PySem.W.kitOne K (.ref C_TooFar) (.ref C_Overfull) = some false)
    (xm_TooFar_TooFar : PySem.W.exmOne K (.ref C_TooFar) (.ref C_TooFar) = some true)
    (xi_TooFar_TooFar : PySem.W.kitOne K (.ref C_TooFar) (.ref C_TooFar) = some true)
    (xv_TooFar : PySem.W.kitOne K (.ref C_TooFar) (.type "ValueError") = some true) :
    ∃ fd : FuncData, (∀ (s : Shared) (v : Value), BindsTo s fd ⟨[v], []⟩ [("script", v)]) ∧ ∀ base : Heap, K.In base → base.Ns mainGlobals mg → aO l.prog w K mg base CX0 7 fa fd ["script"] (spP K (fun _ => .none) 1 jz) := by
  have e := hfa.symm.trans (PySem.W.mg_of X G a26)
  cases e
  have T : Txt K mg := ⟨PySem.W.mg_none_of X G z_ValueError, PySem.W.mg_none_of X G z_abs, PySem.W.mg_none_of X G z_all, PySem.W.mg_none_of X G z_bool, PySem.W.mg_none_of X G z_int, PySem.W.mg_none_of X G z_isinstance, PySem.W.mg_none_of X G z_len, PySem.W.mg_none_of X G z_list, PySem.W.mg_none_of X G z_max, PySem.W.mg_none_of X G z_min, PySem.W.mg_none_of X G z_range, PySem.W.mg_none_of X G z_str, PySem.W.mg_none_of X G z_tuple, tD (PySem.W.mg_of X G g_ACROSS) h_ACROSS, qN (PySem.W.mg_of X G g_FARTHEST), qN (PySem.W.mg_of X G g_MOST_BORNE), tD (PySem.W.mg_of X G g_WAYS) h_WAYS, ⟨C_Empty, PySem.W.mg_of X G nc_Empty, xq_Empty⟩, ⟨C_Overfull, PySem.W.mg_of X G nc_Overfull, xq_Overfull⟩, ⟨C_TooFar, PySem.W.mg_of X G nc_TooFar, xq_TooFar⟩, ⟨C_BedFault, PySem.W.mg_of X G nc_BedFault, (cP (PySem.W.mg_of X G nc_Empty) nc_Empty xm_Empty_BedFault (cP (PySem.W.mg_of X G nc_Overfull) nc_Overfull xm_Overfull_BedFault (cP (PySem.W.mg_of X G nc_TooFar) nc_TooFar xm_TooFar_BedFault jA))), (ck nc_Empty xk_Empty xi_Empty_BedFault (ck nc_Overfull xk_Overfull xi_Overfull_BedFault (ck nc_TooFar xk_TooFar xi_TooFar_BedFault iI)))⟩, ⟨C_Empty, PySem.W.mg_of X G nc_Empty, (cP (PySem.W.mg_of X G nc_Empty) nc_Empty xm_Empty_Empty (cP (PySem.W.mg_of X G nc_Overfull) nc_Overfull xm_Overfull_Empty (cP (PySem.W.mg_of X G nc_TooFar) nc_TooFar xm_TooFar_Empty jA))), (ck nc_Empty xk_Empty xi_Empty_Empty (ck nc_Overfull xk_Overfull xi_Overfull_Empty (ck nc_TooFar xk_TooFar xi_TooFar_Empty iI)))⟩, ⟨C_LoopError, PySem.W.mg_of X G nc_LoopError, (cP (PySem.W.mg_of X G nc_Empty) nc_Empty xm_Empty_LoopError (cP (PySem.W.mg_of X G nc_Overfull) nc_Overfull xm_Overfull_LoopError (cP (PySem.W.mg_of X G nc_TooFar) nc_TooFar xm_TooFar_LoopError jA))), (ck nc_Empty xk_Empty xi_Empty_LoopError (ck nc_Overfull xk_Overfull xi_Overfull_LoopError (ck nc_TooFar xk_TooFar xi_TooFar_LoopError iI)))⟩, ⟨C_NothingDone, PySem.W.mg_of X G nc_NothingDone, (cP (PySem.W.mg_of X G nc_Empty) nc_Empty xm_Empty_NothingDone (cP (PySem.W.mg_of X G nc_Overfull) nc_Overfull xm_Overfull_NothingDone (cP (PySem.W.mg_of X G nc_TooFar) nc_TooFar xm_TooFar_NothingDone jA))), (ck nc_Empty xk_Empty xi_Empty_NothingDone (ck nc_Overfull xk_Overfull xi_Overfull_NothingDone (ck nc_TooFar xk_TooFar xi_TooFar_NothingDone iI)))⟩, ⟨C_Overfull, PySem.W.mg_of X G nc_Overfull, (cP (PySem.W.mg_of X G nc_Empty) nc_Empty xm_Empty_Overfull (cP (PySem.W.mg_of X G nc_Overfull) nc_Overfull xm_Overfull_Overfull (cP (PySem.W.mg_of X G nc_TooFar) nc_TooFar xm_TooFar_Overfull jA))), (ck nc_Empty xk_Empty xi_Empty_Overfull (ck nc_Overfull xk_Overfull xi_Overfull_Overfull (ck nc_TooFar xk_TooFar xi_TooFar_Overfull iI)))⟩, ⟨C_TooFar, PySem.W.mg_of X G nc_TooFar, (cP (PySem.W.mg_of X G nc_Empty) nc_Empty xm_Empty_TooFar (cP (PySem.W.mg_of X G nc_Overfull) nc_Overfull xm_Overfull_TooFar (cP (PySem.W.mg_of X G nc_TooFar) nc_TooFar xm_TooFar_TooFar jA))), (ck nc_Empty xk_Empty xi_Empty_TooFar (ck nc_Overfull xk_Overfull xi_Overfull_TooFar (ck nc_TooFar xk_TooFar xi_TooFar_TooFar iI)))⟩, (ck nc_Empty xk_Empty xv_Empty (ck nc_Overfull xk_Overfull xv_Overfull (ck nc_TooFar xk_TooFar xv_TooFar iI)))⟩
  have TB : aV K C := ⟨aC, ⟨pgB, hdB, poB, saB⟩, nB1, nB2, nB3⟩
  have F0 := bM (st := iX) l0 c0 k0
  have F1 := bM (st := jy) l1 c1 k1
  have F2 := bM (st := jl) l2 c2 k2
  have F3 := bM (st := ju) l3 c3 k3
  have F4 := bM (st := jc) l4 c4 k4
  have F5 := bM (st := jv) l5 c5 k5
  have F6 := bM (st := iT) l6 c6 k6
  have F7 := bM (st := iP) l7 c7 k7
  have F8 := bM (st := jb) l8 c8 k8
  have F9 := bM (st := jW) l9 c9 k9
  have F10 := bM (st := jI) l10 c10 k10
  have F11 := bM (st := jH) l11 c11 k11
  have F12 := bM (st := iZ) l12 c12 k12
  have F13 := bM (st := jh) l13 c13 k13
  have F14 := bM (st := jg) l14 c14 k14
  have F15 := bM (st := jw) l15 c15 k15
  have F16 := bM (st := ja) l16 c16 k16
  have F17 := bM (st := jK) l17 c17 k17
  have F18 := bM (st := jP) l18 c18 k18
  have F19 := bM (st := jV) l19 c19 k19
  have F20 := bM (st := iU) l20 c20 k20
  have F21 := bM (st := jL) l21 c21 k21
  have F22 := bM (st := jD) l22 c22 k22
  have F23 := bM (st := jB) l23 c23 k23
  have F24 := bM (st := jO) l24 c24 k24
  have F25 := bM (st := iR) l25 c25 k25
  have F26 := bM (st := fU) l26 c26 k26
  refine ⟨PySem.W.fnOf "law" "law" (bx fU) (bo fU) (aH fU) .none kV26 dc26 pm26 an26 cd26 ct26, fun s v => .of_eq rfl, fun base _ _ => ?_⟩
  have D_Bed : MkB l.prog w K mg base C := ⟨PySem.W.mg_of X G aC, _, _, xc F0 TB, ⟨mkB, a0, i0, kcB⟩, F0.binds (ps := ["self"]) fun _ _ _ _ _ _ us hl => by obtain ⟨_, rfl⟩ := jU us hl; rfl⟩
  have D_hook : iq l.prog w K mg base 1 "_law_hook" 3 [0] dJ := ⟨_, _, _, wV F1 T TB , PySem.W.mg_of X G a1, k1, F1.binds (ps := ["hooks", "row", "at"]) fun _ _ _ _ _ _ us hl => by obtain ⟨_, _, _, rfl⟩ := mQ us hl; rfl⟩
  have D_word : iq l.prog w K mg base 2 "_law_word" 2 [0] eZ := ⟨_, _, _, vC F2 T TB D_hook, PySem.W.mg_of X G a2, k2, F2.binds (ps := ["hooks", "deed"]) fun _ _ _ _ _ _ us hl => by obtain ⟨_, _, rfl⟩ := dB us hl; rfl⟩
  have D_Bed_loops_at : MethP l.prog w K mg base C 1 "loops_at" 2 cn := ⟨_, _, _, yS F3 T TB , ⟨a3, i3, k3⟩, F3.binds (ps := ["self", "spot"]) fun _ _ _ _ _ _ us hl => by obtain ⟨_, _, rfl⟩ := dB us hl; rfl⟩
  have D_Bed_keep : MethW l.prog w K mg base C 2 "keep" 3 cR := ⟨_, _, _, Bp F4 T TB D_Bed_loops_at, ⟨a4, i4, k4⟩, F4.binds (ps := ["self", "deed", "spots"]) fun _ _ _ _ _ _ us hl => by obtain ⟨_, _, _, rfl⟩ := mQ us hl; rfl⟩
  have D_Bed_move : fJ l.prog w K mg base C 3 "move" 2 g0 := ⟨_, _, _, Bt F5 T TB D_Bed_loops_at D_Bed_keep, ⟨a5, i5, k5⟩, F5.binds (ps := ["self", "deed"]) fun _ _ _ _ _ _ us hl => by obtain ⟨_, _, rfl⟩ := dB us hl; rfl⟩
  have D_Bed_new_loop : MethW l.prog w K mg base C 1 "new_loop" 4 dZ := ⟨_, _, _, wJ F6 T TB , ⟨a6, i6, k6⟩, F6.binds (ps := ["self", "yarn", "way", "held"]) fun _ _ _ _ _ _ us hl => by obtain ⟨_, _, _, _, rfl⟩ := pS us hl; rfl⟩
  have D_Bed_knit : fJ l.prog w K mg base C 3 "knit" 2 gY := ⟨_, _, _, ux F7 T TB D_Bed_loops_at D_Bed_keep D_Bed_new_loop, ⟨a7, i7, k7⟩, F7.binds (ps := ["self", "deed"]) fun _ _ _ _ _ _ us hl => by obtain ⟨_, _, rfl⟩ := dB us hl; rfl⟩
  have D_Bed_tuck : fJ l.prog w K mg base C 3 "tuck" 2 iH := ⟨_, _, _, wj F8 T TB D_Bed_loops_at D_Bed_keep D_Bed_new_loop, ⟨a8, i8, k8⟩, F8.binds (ps := ["self", "deed"]) fun _ _ _ _ _ _ us hl => by obtain ⟨_, _, rfl⟩ := dB us hl; rfl⟩
  have D_Bed_act : fJ l.prog w K mg base C 4 "act" 2 cQ := ⟨_, _, _, w5 F9 T TB D_Bed_move D_Bed_knit D_Bed_tuck, ⟨a9, i9, k9⟩, F9.binds (ps := ["self", "deed"]) fun _ _ _ _ _ _ us hl => by obtain ⟨_, _, rfl⟩ := dB us hl; rfl⟩
  have D_own : nC l.prog w K mg base 1 "_law_own" 1 gp := ⟨_, _, _, xA F10 T TB , PySem.W.mg_of X G a10, k10, F10.binds (ps := ["e"]) fun _ _ _ _ _ _ us hl => by obtain ⟨_, rfl⟩ := jU us hl; rfl⟩
  have D_act : lg l.prog w K mg base 5 "_law_act" 2 dW := ⟨_, _, _, wC F11 T TB D_Bed_act D_own, PySem.W.mg_of X G a11, k11, F11.binds (ps := ["bed", "deed"]) fun _ _ _ _ _ _ us hl => by obtain ⟨_, _, rfl⟩ := dB us hl; rfl⟩
  have D_at : cc l.prog w K mg base 1 "_law_at" 2 gG := ⟨_, _, _, AG F12 T TB , PySem.W.mg_of X G a12, k12, F12.binds (ps := ["row", "at"]) fun _ _ _ _ _ _ us hl => by obtain ⟨_, _, rfl⟩ := dB us hl; rfl⟩
  have D_do : iq l.prog w K mg base 2 "_law_do" 3 [0, 1] eW := ⟨_, _, _, zU F13 T TB D_at, PySem.W.mg_of X G a13, k13, F13.binds (ps := ["hooks", "cloth", "deed"]) fun _ _ _ _ _ _ us hl => by obtain ⟨_, _, _, rfl⟩ := mQ us hl; rfl⟩
  have D_whole : cc l.prog w K mg base 1 "_law_whole" 1 dr := ⟨_, _, _, wm F14 T TB , PySem.W.mg_of X G a14, k14, F14.binds (ps := ["found"]) fun _ _ _ _ _ _ us hl => by obtain ⟨_, rfl⟩ := jU us hl; rfl⟩
  have D_played : lg l.prog w K mg base 6 "_law_played" 2 fj := ⟨_, _, _, zx F15 T TB D_word D_act D_do D_whole, PySem.W.mg_of X G a15, k15, F15.binds (ps := ["bed", "deeds"]) fun _ _ _ _ _ _ us hl => by obtain ⟨_, _, rfl⟩ := dB us hl; rfl⟩
  have D_loop : cc l.prog w K mg base 2 "_law_loop" 1 iF := ⟨_, _, _, yN F16 T TB D_whole, PySem.W.mg_of X G a16, k16, F16.binds (ps := ["found"]) fun _ _ _ _ _ _ us hl => by obtain ⟨_, rfl⟩ := jU us hl; rfl⟩
  have D_alike_cloth : cc l.prog w K mg base 3 "_law_alike_cloth" 2 jG := ⟨_, _, _, BB F17 T TB D_loop, PySem.W.mg_of X G a17, k17, F17.binds (ps := ["found", "due"]) fun _ _ _ _ _ _ us hl => by obtain ⟨_, _, rfl⟩ := dB us hl; rfl⟩
  have D_Bed_done : MethP l.prog w K mg base C 1 "done" 1 dO := ⟨_, _, _, uW F18 T TB , ⟨a18, i18, k18⟩, F18.binds (ps := ["self"]) fun _ _ _ _ _ _ us hl => by obtain ⟨_, rfl⟩ := jU us hl; rfl⟩
  have D_alike_hook : cc l.prog w K mg base 2 "_law_alike_hook" 2 gb := ⟨_, _, _, Ac F19 T TB D_whole, PySem.W.mg_of X G a19, k19, F19.binds (ps := ["found", "due"]) fun _ _ _ _ _ _ us hl => by obtain ⟨_, _, rfl⟩ := dB us hl; rfl⟩
  have D_Bed_cloth : MethP l.prog w K mg base C 1 "cloth" 1 dG := ⟨_, _, _, w8 F20 T TB , ⟨a20, i20, k20⟩, F20.binds (ps := ["self"]) fun _ _ _ _ _ _ us hl => by obtain ⟨_, rfl⟩ := jU us hl; rfl⟩
  have D_Bed_hook : MethP l.prog w K mg base C 2 "hook" 3 b7 := ⟨_, _, _, wk F21 T TB D_Bed_loops_at, ⟨a21, i21, k21⟩, F21.binds (ps := ["self", "row", "hook"]) fun _ _ _ _ _ _ us hl => by obtain ⟨_, _, _, rfl⟩ := mQ us hl; rfl⟩
  have D_stands : cc l.prog w K mg base 4 "_law_stands" 4 eY := ⟨_, _, _, vR F22 T TB D_alike_cloth D_Bed_done D_alike_hook D_Bed_cloth D_Bed_hook, PySem.W.mg_of X G a22, k22, F22.binds (ps := ["bed", "hooks", "cloth", "deeds"]) fun _ _ _ _ _ _ us hl => by obtain ⟨_, _, _, _, rfl⟩ := pS us hl; rfl⟩
  have D_cell_at : cc l.prog w K mg base 1 "_law_cell_at" 2 dC := ⟨_, _, _, v3 F23 T TB , PySem.W.mg_of X G a23, k23, F23.binds (ps := ["script", "k"]) fun _ _ _ _ _ _ us hl => by obtain ⟨_, _, rfl⟩ := dB us hl; rfl⟩
  have D_mix : cc l.prog w K mg base 1 "_law_mix" 2 eF := ⟨_, _, _, Bv F24 T TB , PySem.W.mg_of X G a24, k24, F24.binds (ps := ["cell", "k"]) fun _ _ _ _ _ _ us hl => by obtain ⟨_, _, rfl⟩ := dB us hl; rfl⟩
  have D_deed : cc l.prog w K mg base 2 "_law_deed" 2 ik := ⟨_, _, _, uX F25 T TB D_mix, PySem.W.mg_of X G a25, k25, F25.binds (ps := ["cell", "spread"]) fun _ _ _ _ _ _ us hl => by obtain ⟨_, _, rfl⟩ := dB us hl; rfl⟩
  exact Am F26 T TB D_Bed D_played D_stands D_cell_at D_Bed_cloth D_Bed_done D_Bed_hook D_deed
theorem walk {l : PySem.W.OpenLaw} {q : Program} {loose : List Str} {XP : (Str → Option Value) → Heap → Prop} {YP : World → Heap → Prop} {d : DefRec} {K : Params → PySem.W.Frag} (hn : l.most = some 63) (hdf : d.params.defaults = [])
    (hY : ∀ (w : World) (h : Heap), YP w h → (K w.params).In h)
    (F : ∀ (w : World) (mg : Str → Option Value) (fa : Addr) (h : Heap), (K w.params).In h → h.Ns mainGlobals mg → mg d.name = some (.ref fa) →
      ∃ fd : FuncData, (∀ (s : Shared) (u : Value), BindsTo s fd ⟨[u], []⟩ [("script", u)]) ∧ ∀ base : Heap, (K w.params).In base → base.Ns mainGlobals mg → aO l.prog w (K w.params) mg base CX0 7 fa fd ["script"] (spP (K w.params) (fun _ => .none) 1 jz)) :
    PySem.W.WalkO q loose XP YP l.row.toRowW d [] (fun f vs => PySem.call f vs) :=
  L2.xR (n := 63) (k := 7) (x := "script") (CX := fun _ => CX0) (sp := fun w => spP (K w.params) (fun _ => .none) 1 jz) hn (by decide) hdf ⟨rfl, by decide, by decide, rfl⟩ hY F (fun w H a ns hl hO hS => xB (uv ns hl) hO hS) fun _ _ _ _ _ z => z
end Lw
open PySem PySem.W PyProof.Rows
set_option maxRecDepth 100000 in
set_option maxHeartbeats 0 in
theorem PySem.Challenge.cw_loopbed_k12_deeds_on_a_bed_holds : PySem.Challenge.rw_loopbed_k12_deeds_on_a_bed.Holds := by
  w_on; o_law; k_head; (case hw => w_witness2)
  k_fill
  refine Lw.walk (l := PySem.Challenge.rw_loopbed_k12_deeds_on_a_bed) rfl rfl (fun w h Y => PySem.W.kIn_of Y) ?F
  case F =>
    intro w mg fa h KX G hmg
    refine' Lw.all_mk KX G hmg ?aC ?a0 ?i0 ?l0 ?c0 ?k0 ?a1 ?l1 ?c1 ?k1 ?a2 ?l2 ?c2 ?k2 ?a3 ?i3 ?l3 ?c3 ?k3 ?a4 ?i4 ?l4 ?c4 ?k4 ?a5 ?i5 ?l5 ?c5 ?k5 ?a6 ?i6 ?l6 ?c6 ?k6 ?a7 ?i7 ?l7 ?c7 ?k7 ?a8 ?i8 ?l8 ?c8 ?k8 ?a9 ?i9 ?l9 ?c9 ?k9 ?a10 ?l10 ?c10 ?k10 ?a11 ?l11 ?c11 ?k11 ?a12 ?l12 ?c12 ?k12 ?a13 ?l13 ?c13 ?k13 ?a14 ?l14 ?c14 ?k14 ?a15 ?l15 ?c15 ?k15 ?a16 ?l16 ?c16 ?k16 ?a17 ?l17 ?c17 ?k17 ?a18 ?i18 ?l18 ?c18 ?k18 ?a19 ?l19 ?c19 ?k19 ?a20 ?i20 ?l20 ?c20 ?k20 ?a21 ?i21 ?l21 ?c21 ?k21 ?a22 ?l22 ?c22 ?k22 ?a23 ?l23 ?c23 ?k23 ?a24 ?l24 ?c24 ?k24 ?a25 ?l25 ?c25 ?k25 ?a26 ?l26 ?c26 ?k26 ?z_ValueError ?z_abs ?z_all ?z_bool ?z_int ?z_isinstance ?z_len ?z_list ?z_max ?z_min ?z_range ?z_str ?z_tuple ?pgB ?hdB ?poB ?saB ?mkB ?kcB ?nB1 ?nB2 ?nB3 ?g_ACROSS ?h_ACROSS ?g_FARTHEST ?g_MOST_BORNE ?g_WAYS ?h_WAYS ?nc_BedFault ?nc_Empty ?nc_LoopError ?nc_NothingDone ?nc_Overfull ?nc_TooFar ?xq_Empty ?xk_Empty ?xm_Empty_BedFault ?xi_Empty_BedFault ?xm_Empty_Empty ?xi_Empty_Empty ?xm_Empty_LoopError ?xi_Empty_LoopError ?xm_Empty_NothingDone ?xi_Empty_NothingDone ?xm_Empty_Overfull ?xi_Empty_Overfull ?xm_Empty_TooFar ?xi_Empty_TooFar ?xv_Empty ?xq_Overfull ?xk_Overfull ?xm_Overfull_BedFault ?xi_Overfull_BedFault ?xm_Overfull_Empty ?xi_Overfull_Empty ?xm_Overfull_LoopError ?xi_Overfull_LoopError ?xm_Overfull_NothingDone ?xi_Overfull_NothingDone ?xm_Overfull_Overfull ?xi_Overfull_Overfull ?xm_Overfull_TooFar ?xi_Overfull_TooFar ?xv_Overfull ?xq_TooFar ?xk_TooFar ?xm_TooFar_BedFault ?xi_TooFar_BedFault ?xm_TooFar_Empty ?xi_TooFar_Empty ?xm_TooFar_LoopError ?xi_TooFar_LoopError ?xm_TooFar_NothingDone ?xi_TooFar_NothingDone ?xm_TooFar_Overfull ?xi_TooFar_Overfull ?xm_TooFar_TooFar ?xi_TooFar_TooFar ?xv_TooFar
    (case aC => k_is)
    (case a0 => k_is)
    (case i0 => k_is)
    (case l0 => k_is)
    (case c0 => k_is)
    (case k0 => k_is)
    (case a1 => k_is)
    (case l1 => k_is)
    (case c1 => k_is)
    (case k1 => k_is)
    (case a2 => k_is)
    (case l2 => k_is)
    (case c2 => k_is)
    (case k2 => k_is)
    (case a3 => k_is)
    (case i3 => k_is)
    (case l3 => k_is)
    (case c3 => k_is)
    (case k3 => k_is)
    (case a4 => k_is)
    (case i4 => k_is)
    (case l4 => k_is)
    (case c4 => k_is)
    (case k4 => k_is)
    (case a5 => k_is)
    (case i5 => k_is)
    (case l5 => k_is)
    (case c5 => k_is)
    (case k5 => k_is)
    (case a6 => k_is)
    (case i6 => k_is)
    (case l6 => k_is)
    (case c6 => k_is)
    (case k6 => k_is)
    (case a7 => k_is)
    (case i7 => k_is)
    (case l7 => k_is)
    (case c7 => k_is)
    (case k7 => k_is)
    (case a8 => k_is)
    (case i8 => k_is)
    (case l8 => k_is)
    (case c8 => k_is)
    (case k8 => k_is)
    (case a9 => k_is)
    (case i9 => k_is)
    (case l9 => k_is)
    (case c9 => k_is)
    (case k9 => k_is)
    (case a10 => k_is)
    (case l10 => k_is)
    (case c10 => k_is)
    (case k10 => k_is)
    (case a11 => k_is)
    (case l11 => k_is)
    (case c11 => k_is)
    (case k11 => k_is)
    (case a12 => k_is)
    (case l12 => k_is)
    (case c12 => k_is)
    (case k12 => k_is)
    (case a13 => k_is)
    (case l13 => k_is)
    (case c13 => k_is)
    (case k13 => k_is)
    (case a14 => k_is)
    (case l14 => k_is)
    (case c14 => k_is)
    (case k14 => k_is)
    (case a15 => k_is)
    (case l15 => k_is)
    (case c15 => k_is)
    (case k15 => k_is)
    (case a16 => k_is)
    (case l16 => k_is)
    (case c16 => k_is)
    (case k16 => k_is)
    (case a17 => k_is)
    (case l17 => k_is)
    (case c17 => k_is)
    (case k17 => k_is)
    (case a18 => k_is)
    (case i18 => k_is)
    (case l18 => k_is)
    (case c18 => k_is)
    (case k18 => k_is)
    (case a19 => k_is)
    (case l19 => k_is)
    (case c19 => k_is)
    (case k19 => k_is)
    (case a20 => k_is)
    (case i20 => k_is)
    (case l20 => k_is)
    (case c20 => k_is)
    (case k20 => k_is)
    (case a21 => k_is)
    (case i21 => k_is)
    (case l21 => k_is)
    (case c21 => k_is)
    (case k21 => k_is)
    (case a22 => k_is)
    (case l22 => k_is)
    (case c22 => k_is)
    (case k22 => k_is)
    (case a23 => k_is)
    (case l23 => k_is)
    (case c23 => k_is)
    (case k23 => k_is)
    (case a24 => k_is)
    (case l24 => k_is)
    (case c24 => k_is)
    (case k24 => k_is)
    (case a25 => k_is)
    (case l25 => k_is)
    (case c25 => k_is)
    (case k25 => k_is)
    (case a26 => k_is)
    (case l26 => k_is)
    (case c26 => k_is)
    (case k26 => k_is)
    (case z_ValueError => k_is)
    (case z_abs => k_is)
    (case z_all => k_is)
    (case z_bool => k_is)
    (case z_int => k_is)
    (case z_isinstance => k_is)
    (case z_len => k_is)
    (case z_list => k_is)
    (case z_max => k_is)
    (case z_min => k_is)
    (case z_range => k_is)
    (case z_str => k_is)
    (case z_tuple => k_is)
    (case pgB => k_is)
    (case hdB => k_is)
    (case poB => k_is)
    (case saB => k_is)
    (case mkB => k_is)
    (case kcB => k_is)
    (case nB1 => k_is)
    (case nB2 => k_is)
    (case nB3 => k_is)
    (case g_ACROSS => k_is)
    (case h_ACROSS => kernel_rfl)
    (case g_FARTHEST => k_is)
    (case g_MOST_BORNE => k_is)
    (case g_WAYS => k_is)
    (case h_WAYS => kernel_rfl)
    (case nc_BedFault => k_is)
    (case nc_Empty => k_is)
    (case nc_LoopError => k_is)
    (case nc_NothingDone => k_is)
    (case nc_Overfull => k_is)
    (case nc_TooFar => k_is)
    (case xq_Empty => kernel_rfl)
    (case xk_Empty => kernel_rfl)
    (case xm_Empty_BedFault => kernel_rfl)
    (case xi_Empty_BedFault => kernel_rfl)
    (case xm_Empty_Empty => kernel_rfl)
    (case xi_Empty_Empty => kernel_rfl)
    (case xm_Empty_LoopError => kernel_rfl)
    (case xi_Empty_LoopError => kernel_rfl)
    (case xm_Empty_NothingDone => kernel_rfl)
    (case xi_Empty_NothingDone => kernel_rfl)
    (case xm_Empty_Overfull => kernel_rfl)
    (case xi_Empty_Overfull => kernel_rfl)
    (case xm_Empty_TooFar => kernel_rfl)
    (case xi_Empty_TooFar => kernel_rfl)
    (case xv_Empty => kernel_rfl)
    (case xq_Overfull => kernel_rfl)
    (case xk_Overfull => kernel_rfl)
    (case xm_Overfull_BedFault => kernel_rfl)
    (case xi_Overfull_BedFault => kernel_rfl)
    (case xm_Overfull_Empty => kernel_rfl)
    (case xi_Overfull_Empty => kernel_rfl)
    (case xm_Overfull_LoopError => kernel_rfl)
    (case xi_Overfull_LoopError => kernel_rfl)
    (case xm_Overfull_NothingDone => kernel_rfl)
    (case xi_Overfull_NothingDone => kernel_rfl)
    (case xm_Overfull_Overfull => kernel_rfl)
    (case xi_Overfull_Overfull => kernel_rfl)
    (case xm_Overfull_TooFar => kernel_rfl)
    (case xi_Overfull_TooFar => kernel_rfl)
    (case xv_Overfull => kernel_rfl)
    (case xq_TooFar => kernel_rfl)
    (case xk_TooFar => kernel_rfl)
    (case xm_TooFar_BedFault => kernel_rfl)
    (case xi_TooFar_BedFault => kernel_rfl)
    (case xm_TooFar_Empty => kernel_rfl)
    (case xi_TooFar_Empty => kernel_rfl)
    (case xm_TooFar_LoopError => kernel_rfl)
    (case xi_TooFar_LoopError => kernel_rfl)
    (case xm_TooFar_NothingDone => kernel_rfl)
    (case xi_TooFar_NothingDone => kernel_rfl)
    (case xm_TooFar_Overfull => kernel_rfl)
    (case xi_TooFar_Overfull => kernel_rfl)
    (case xm_TooFar_TooFar => kernel_rfl)
    (case xi_TooFar_TooFar => kernel_rfl)
    (case xv_TooFar => kernel_rfl)
